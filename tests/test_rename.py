"""rename: a name that the program makes or reads, changed wherever other cells have to do with it."""

import unittest

from helper import (
    BOUND_ANEW, FORM_TOO_LONG, NO_NEW_NAME, NO_SUCH, NOT_GOOD, NOT_SOUND, TOO_LONG, padded, rename, told,
)

RESERVED = (
    "let set show table plot check slider choice if else while for in do give fn and or not yes no none len keys text "
    "num roll cut with"
).split()


class Rename(unittest.TestCase):
    def changed(self, source, old, new, expected):
        self.assertEqual(rename(source, old, new), told(expected), source)

    def refused(self, source, old, new, refusal):
        self.assertEqual(rename(source, old, new), refusal, (source, old, new))


class Examples(Rename):
    def test_the_documents_own(self):
        source = "let f = fn (y) { give x + y; };"
        self.refused(source, "x", "y", BOUND_ANEW)
        self.changed(source, "x", "z", "let f = fn (y) { give z + y; };")
        self.refused(source, "y", "z", NO_SUCH)
        self.changed(source, "f", "g", "let g = fn (y) { give x + y; };")
        self.changed("if(a or (b or c)){show((1+2)+3);}# x", "b", "d", "if a or (d or c) { show 1 + 2 + 3; }")
        self.refused("show x; { ", "x", "y", NOT_GOOD)
        self.refused("for i in [1] { let i = i; set i = 2; }", "i", "j", NO_SUCH)
        self.refused("let n = 0; let f = fn () { set n = 1; };", "n", "m", NOT_SOUND)


class Changed(Rename):
    def test_a_name_that_is_made(self):
        self.changed("let a = 1;", "a", "b", "let b = 1;")
        self.changed("slider a = 1 in 0, 2; show a;", "a", "b", "slider b = 1 in 0, 2;\nshow b;")
        self.changed('choice a = 0 in "a"; show a;', "a", "b", 'choice b = 0 in "a";\nshow b;')
        self.changed("let a = 1; let c = a; set a = a + c; if a { set a = 2; } show fn () { give a; };", "a", "b",
                     "let b = 1;\nlet c = b;\nset b = b + c;\nif b { set b = 2; }\nshow fn () { give b; };")

    def test_a_name_that_is_read(self):
        self.changed("show a; show a + fn () { give a; };", "a", "b", "show b;\nshow b + fn () { give b; };")
        self.changed("for c in a { while a { let d = a; } }", "a", "b", "for c in b { while b { let d = b; } }")

    def test_a_name_that_is_made_and_read(self):
        self.changed("show a; let a = a; show a;", "a", "b", "show b;\nlet b = b;\nshow b;")
        self.changed("let f = fn () { give a; }; slider a = 1 in 1, 1; show a;", "a", "b",
                     "let f = fn () { give b; };\nslider b = 1 in 1, 1;\nshow b;")

    def test_names_bound_within_stay_as_they_are(self):
        self.changed("let a = 1; show fn (a) { give a; }(a);", "a", "b", "let b = 1;\nshow fn (a) { give a; }(b);")
        self.changed("for a in a { show a; } show a;", "a", "b", "for a in b { show a; }\nshow b;")
        self.changed("let a = 1; if a { let a = a; show a; set a = a; } show a;", "a", "b",
                     "let b = 1;\nif b { let a = b; show a; set a = a; }\nshow b;")
        self.changed("show a; show fn a() { give a; }; show fn () { show a; let a = 1; show a; };", "a", "b",
                     "show b;\nshow fn a() { give a; };\nshow fn () { show b; let a = 1; show a; };")
        self.changed("let a = fn a(a) { set a = a; };", "a", "b", "let b = fn a(a) { set a = a; };")
        self.changed("show fn a(c) { give a; }; let c = 1; show c;", "c", "a", "show fn a(c) { give a; };\nlet a = 1;\nshow a;")

    def test_names_of_fields_stay_as_they_are(self):
        self.changed("let a = (a: a, b: 1).a; show a.a.b;", "a", "c", "let c = (a: c, b: 1).a;\nshow c.a.b;")
        self.changed("let a = (a: a, b: 1).a; show a.a.b;", "a", "b", "let b = (a: b, b: 1).a;\nshow b.a.b;")
        self.refused("show x.a; show (a: 1);", "a", "b", NO_SUCH)

    def test_only_that_name(self):
        self.changed("let a = b; let c = [a, b, d]; show e;", "b", "x", "let a = x;\nlet c = [a, x, d];\nshow e;")
        self.changed("show ab; show a; show abc; show A;", "ab", "x", "show x;\nshow a;\nshow abc;\nshow A;")
        self.changed('show "a"; show a; # a', "a", "x", 'show "a";\nshow x;')

    def test_new_that_is_bound_within_but_catches_nothing(self):
        self.changed("let a = 1; for b in [] { show b; } show a;", "a", "b", "let b = 1;\nfor b in [] { show b; }\nshow b;")
        self.changed("let a = fn (b) { give b; }; show a;", "a", "b", "let b = fn (b) { give b; };\nshow b;")
        self.changed("for b in a {}", "a", "b", "for b in b {}")
        self.changed("if 1 { let b = a; show b; }", "a", "b", "if 1 { let b = b; show b; }")
        self.changed("if 1 { show a; let b = 1; } else { show a; }", "a", "b", "if 1 { show b; let b = 1; } else { show b; }")
        self.changed("show fn b(c) { give b; }(a);", "a", "b", "show fn b(c) { give b; }(b);")


class Old(Rename):
    def test_neither_made_nor_read(self):
        for source in (
            "", "show b;", "let b = 1;", "for a in [] { show a; }", "show fn a() { give a; };", "show fn (a) { give a; };",
            "if 1 { let a = 1; show a; }", "show x.a;", "show (a: 1);", 'show "a"; # a', "show aa;", "show A;",
        ):
            self.refused(source, "a", "z", NO_SUCH)
            self.refused(source, "a", "a", NO_SUCH)
            self.refused(source, "a", "let", NO_SUCH)

    def test_that_is_no_name(self):
        for old in ("", " a", "a ", "let", "1", "1a", "a b", "a.b", "\n", "$", "\xff", "a\x00", "a" * 17, "a" * 100, "#a"):
            self.refused("let a = 1; show a;", old, "b", NO_SUCH)
            self.refused("let a = 1; show a;", old, "a", NO_SUCH)
            self.refused("let a = 1; show a;", old, "", NO_SUCH)


class New(Rename):
    source = "let a = b; show fn (c) { give c; };"

    def test_that_is_a_name(self):
        for new in ("x", "_", "X9", "_0", "a" * 16, "lets", "Let", "let_", "c", "le", "A", "aa", "z_Z_0_9"):
            self.changed(self.source, "a", new, f"let {new} = b;\nshow fn (c) {{ give c; }};")
            self.changed(self.source, "b", new, f"let a = {new};\nshow fn (c) {{ give c; }};")

    def test_that_is_no_name(self):
        for new in (
            "", "a" * 17, "a" * 100, "1", "1a", "9_", "a b", " x", "x ", "x\n", "x.y", "x-y", "x#", "#x", '"x"', "$", "@",
            "x\x00", "\xe9", "x\x80", "x\xff", "[", "`", "{", "/", ":", "x:", "x/", "x@", "x[", "x`", "x{", "x^", "-", "(x)",
        ):
            self.refused(self.source, "a", new, NO_NEW_NAME)
            self.refused(self.source, "b", new, NO_NEW_NAME)

    def test_that_is_reserved(self):
        for new in RESERVED:
            self.refused(self.source, "a", new, NO_NEW_NAME)
            self.changed(self.source, "a", new + "_", f"let {new}_ = b;\nshow fn (c) {{ give c; }};")

    def test_that_is_made_or_read_already(self):
        for old in ("a", "b"):
            for new in ("a", "b"):
                self.refused(self.source, old, new, NO_NEW_NAME)
        source = 'show a; slider b = 1 in 1, 1; choice c = 0 in ""; let d = 1; if e { do fn () { give f; }; }'
        for old in "abcdef":
            for new in "abcdef":
                self.refused(source, old, new, NO_NEW_NAME)

    def test_that_is_old(self):
        self.refused("let a = 1;", "a", "a", NO_NEW_NAME)
        self.refused("show a;", "a", "a", NO_NEW_NAME)


class BoundAnew(Rename):
    def test_caught_by_a_functions_names(self):
        self.refused("let a = 1; show fn (b) { give a; };", "a", "b", BOUND_ANEW)
        self.refused("show fn b() { give a; };", "a", "b", BOUND_ANEW)
        self.refused("show fn (b) { give fn () { if 1 { give a; } }; };", "a", "b", BOUND_ANEW)

    def test_caught_by_a_for(self):
        self.refused("for b in [] { show a; }", "a", "b", BOUND_ANEW)
        self.refused("let a = 1; for b in a { set a = 1; }", "a", "b", BOUND_ANEW)

    def test_caught_by_a_let_within(self):
        self.refused("if 1 { let b = 1; show a; }", "a", "b", BOUND_ANEW)
        self.refused("slider a = 1 in 1, 1; while 1 { let b = 1; if 1 { show a; } }", "a", "b", BOUND_ANEW)
        self.refused("do fn () { let b = 1; give a; };", "a", "b", BOUND_ANEW)

    def test_one_use_of_many(self):
        self.refused("let a = 1; show a; show a; for b in a { show b; } do fn (b) { give b + a; }; show a;", "a", "b", BOUND_ANEW)

    def test_what_would_catch_anothers_use_is_read_already(self):
        self.refused("let a = 1; show b;", "a", "b", NO_NEW_NAME)
        self.refused("show b; let a = 1;", "a", "b", NO_NEW_NAME)


class Longest(Rename):
    def filled(self, name, size):
        """A program in its form, of so many bytes, that reads the name."""
        start = f'show {name};\nshow "'
        return start + "x" * (size - len(start) - 2) + '";'

    def test_600_bytes_and_601(self):
        for size in (598, 599, 600):
            source = self.filled("ab", size)
            self.changed(source, "ab", "cd", source.replace("ab", "cd"))
        self.changed(self.filled("ab", 599), "ab", "abc", self.filled("ab", 599).replace("ab", "abc"))
        self.refused(self.filled("ab", 600), "ab", "abc", FORM_TOO_LONG)
        self.changed(self.filled("ab", 600), "ab", "c", self.filled("ab", 600).replace("ab", "c"))
        self.refused(self.filled("ab", 586), "ab", "c" * 17, NO_NEW_NAME)
        self.changed(self.filled("ab", 586), "ab", "c" * 16, self.filled("ab", 586).replace("ab", "c" * 16))
        self.refused(self.filled("ab", 587), "ab", "c" * 16, FORM_TOO_LONG)

    def test_a_form_that_is_longer_than_its_text(self):
        source = "do[a" + ",1" * 195 + "];"
        self.changed(source + "show 1;", "a", "b", "do [b" + ", 1" * 195 + "];\nshow 1;")
        self.assertEqual(len("do [b" + ", 1" * 195 + "];\nshow 1;"), 600)
        self.refused(source + "show 11;", "a", "b", FORM_TOO_LONG)
        self.refused("do[a" + ",1" * 290 + "];", "a", "b", FORM_TOO_LONG)

    def test_a_form_that_is_shorter_than_its_text(self):
        self.changed(padded("show  a ;", 600), "a", "b", "show b;")


class Refusals(Rename):
    def test_the_text_comes_first(self):
        for old, new in (("a", "b"), ("x", "b"), ("a", "let"), ("", ""), ("a", "a")):
            for source in ("let a = 1;", "let a = 1", "give 1;", "$"):
                self.refused(padded(source, 601), old, new, TOO_LONG)
                self.refused(padded(source, 2000), old, new, TOO_LONG)
            for source in ("let a = 1", "let a = 1; give 1; $", "set x = 1; show x; { ", "give 007;"):
                self.refused(source, old, new, NOT_GOOD)
            for source in (
                "let a = 1; give a;", "show a; set x = 1;", "let a = y; let a = z;", "show fn (a, a) { give a; };",
                "let b = (a: a, a: a);", "if a { slider a = 1 in 1, 1; }", "slider a = 0 in 1, 1;", 'choice a = 1 in "a";',
            ):
                self.refused(source, old, new, NOT_SOUND)
        self.changed(padded("show a;", 600), "a", "b", "show b;")

    def test_then_old_then_new_then_the_bindings_then_the_length(self):
        long = "show a + fn (b) { give a; };\ndo[1" + ",1" * 200 + "];"
        self.refused(long, "b", "1", NO_SUCH)
        self.refused(long, "b", "a", NO_SUCH)
        self.refused(long, "a", "1", NO_NEW_NAME)
        self.refused(long, "a", "a", NO_NEW_NAME)
        self.refused(long, "a", "b", BOUND_ANEW)
        self.refused(long, "a", "c", FORM_TOO_LONG)
        made = "let a = c; show fn (b) { give a; };"
        self.refused(made, "b", "c", NO_SUCH)
        self.refused(made, "a", "c", NO_NEW_NAME)
        self.refused("show fn (b) { give a; }; show b;", "a", "b", NO_NEW_NAME)


if __name__ == "__main__":
    unittest.main()
