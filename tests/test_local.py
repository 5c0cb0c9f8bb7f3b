"""local: a name that holds within the program alone, changed at its binding place and at the uses bound to it."""

import unittest

from helper import (
    BOUND_ANEW, FORM_TOO_LONG, NO_NEW_NAME, NO_SUCH, NOT_GOOD, NOT_SOUND, TOO_LONG, local, padded, told,
)

FARTHEST = 10 ** 18


class Local(unittest.TestCase):
    def changed(self, k, source, new, expected):
        self.assertEqual(local(k, source, new), told(expected), (k, source))

    def refused(self, k, source, new, refusal):
        self.assertEqual(local(k, source, new), refusal, (k, source, new))


class Examples(Local):
    def test_the_documents_own(self):
        source = "let f = fn (y) { give x + y; };"
        self.refused(1, source, "x", BOUND_ANEW)
        self.changed(1, source, "z", "let f = fn (z) { give x + z; };")
        self.refused(0, source, "z", NO_SUCH)
        self.refused(2, source, "z", NO_SUCH)
        source = "for i in [1] { let i = i; set i = 2; }"
        self.changed(0, source, "j", "for j in [1] { let i = j; set i = 2; }")
        self.changed(1, source, "j", "for i in [1] { let j = i; set j = 2; }")
        self.changed(0, "for j in(a or (b or c)){show((1+2)+3);}# x", "i", "for i in a or (b or c) { show 1 + 2 + 3; }")
        self.refused(0, "show x; { ", "y", NOT_GOOD)
        self.refused(0, "let n = 0; let f = fn () { set n = 1; };", "m", NOT_SOUND)


class Changed(Local):
    def test_a_for(self):
        self.changed(0, "for a in a { show a; set a = a.a; } show a;", "b", "for b in a { show b; set b = b.a; }\nshow a;")
        self.changed(1, "for a in [] { for a in a { show a; } show a; }", "b",
                     "for a in [] { for b in a { show b; } show a; }")

    def test_a_parameter(self):
        self.changed(1, "show fn (a, b, c) { give [a, b, c, fn () { give b; }]; }(b);", "x",
                     "show fn (a, x, c) { give [a, x, c, fn () { give x; }]; }(b);")
        self.changed(0, "show fn (a, b) { set a = b; };", "c", "show fn (c, b) { set c = b; };")
        self.changed(2, "show fn (a, b, c) {};", "x", "show fn (a, b, x) {};")
        self.changed(1, "show fn a(a) { give a; };", "b", "show fn a(b) { give b; };")

    def test_a_functions_own_name(self):
        self.changed(0, "show fn f(a) { give f(a); }(f);", "g", "show fn g(a) { give g(a); }(f);")
        self.changed(0, "show fn a(a) { give a; };", "b", "show fn b(a) { give a; };")
        self.changed(1, "let f = fn f() { give f; }; show f;", "g", "let f = fn g() { give g; };\nshow f;")

    def test_a_let_in_a_block(self):
        self.changed(0, "if 1 { let a = a; show a; set a = 2; } else { show a; } show a;", "b",
                     "if 1 { let b = a; show b; set b = 2; } else { show a; }\nshow a;")
        self.changed(1, "let a = 1; while a { show a; let a = a; show fn () { give a; }; } show a;", "b",
                     "let a = 1;\nwhile a { show a; let b = a; show fn () { give b; }; }\nshow a;")
        self.changed(0, "do fn () { let a = 1; if a { let a = a; show a; } give a; };", "b",
                     "do fn () { let b = 1; if b { let a = b; show a; } give b; };")
        self.changed(1, "do fn () { let a = 1; if a { let a = a; show a; } give a; };", "b",
                     "do fn () { let a = 1; if a { let b = a; show b; } give a; };")

    def test_without_uses(self):
        self.changed(0, "for a in [] {}", "b", "for b in [] {}")
        self.changed(0, "show fn a() {};", "b", "show fn b() {};")
        self.changed(0, "if 1 { let a = 1; }", "b", "if 1 { let b = 1; }")

    def test_names_of_fields_stay_as_they_are(self):
        self.changed(0, "show fn (a) { give (a: a, b: 1).a + a.a; };", "b", "show fn (b) { give (a: b, b: 1).a + b.a; };")

    def test_new_that_is_the_old_name(self):
        for source in (
            "for a in a { show a; }", "show fn a(b) { give a(b); };", "show fn (a, b) { give a + b; };",
            "if 1 { let a = a; show a; }", "show fn a(a) { give a; };",
        ):
            self.changed(0, source, "a", source)
        self.changed(1, "show fn a( a ){give(a);};", "a", "show fn a(a) { give a; };")

    def test_new_that_is_elsewhere_but_catches_nothing(self):
        self.changed(1, "let a = 1; for b in a { show b; } show a;", "a", "let a = 1;\nfor a in a { show a; }\nshow a;")
        self.changed(0, "show fn (a) { give a; }(b);", "b", "show fn (b) { give b; }(b);")
        self.changed(0, "if 1 { let a = b; show a; } show b;", "b", "if 1 { let b = b; show b; }\nshow b;")
        self.changed(1, "show fn f(a) { give a; };", "f", "show fn f(f) { give f; };")
        self.changed(0, "show fn f(a) { give a; };", "a", "show fn a(a) { give a; };")
        self.changed(0, "for a in [] { let b = a; show b; }", "b", "for b in [] { let b = b; show b; }")
        self.changed(1, "for a in [] { let b = a; show b; }", "a", "for a in [] { let a = a; show a; }")
        self.changed(0, "if 1 { let a = 1; show a; } else { let b = 1; }", "b", "if 1 { let b = 1; show b; } else { let b = 1; }")
        self.changed(1, "if 1 { let b = 1; if 1 { let a = 1; show a; } show b; }", "b",
                     "if 1 { let b = 1; if 1 { let b = 1; show b; } show b; }")
        self.changed(0, "if 1 { show b; let a = 1; show a; }", "b", "if 1 { show b; let b = 1; show b; }")


class K(Local):
    source = 'let a = 1; slider b = 1 in 1, 1; choice c = 0 in ""; for d in [] {} do fn e(f) { let g = 1; }; let h = 1;'

    def test_each_number(self):
        for k, name in enumerate("abcdefgh"):
            expected = self.source.replace("; ", ";\n").replace("{} ", "{}\n").replace("1;\n}", "1; }")
            if name in "abch":
                self.refused(k, self.source, "x", NO_SUCH)
            else:
                expected = expected.replace({"d": "for d", "e": "e(", "f": "(f", "g": "let g"}[name],
                                            {"d": "for x", "e": "x(", "f": "(x", "g": "let x"}[name])
                self.changed(k, self.source, "x", expected)

    def test_at_and_beyond_the_edges(self):
        for k in (-1, -2, -8, 8, 9, FARTHEST, -FARTHEST):
            self.refused(k, self.source, "x", NO_SUCH)
        for k in (-1, 0, 1, FARTHEST, -FARTHEST):
            self.refused(k, "", "x", NO_SUCH)
            self.refused(k, "show a;", "x", NO_SUCH)
        for k in (-1, 1, FARTHEST, -FARTHEST):
            self.refused(k, "for a in [] {}", "x", NO_SUCH)

    def test_of_an_outermost_let_slider_or_choice(self):
        for source in ("let a = 1;", "slider a = 1 in 1, 1;", 'choice a = 0 in "a";'):
            for new in ("b", "a", "", "let"):
                self.refused(0, source, new, NO_SUCH)


class New(Local):
    def test_that_is_a_name(self):
        for new in ("x", "_", "X9", "_0", "a" * 16, "lets", "Let", "let_", "le", "A", "aa"):
            self.changed(0, "for a in b { show a; }", new, f"for {new} in b {{ show {new}; }}")

    def test_that_is_no_name(self):
        for new in (
            "", "a" * 17, "a" * 100, "1", "1a", "9_", "a b", " x", "x ", "x\n", "x.y", "#x", '"x"', "$", "x\x00", "\xe9",
            "x\xff", "let", "set", "fn", "with", "none", "in", "roll", "text", "x-y", "x@", "x[", "x`", "x{", "x/", "x:",
        ):
            self.refused(0, "for a in b { show a; }", new, NO_NEW_NAME)


class BoundAnew(Local):
    def test_a_use_of_another_would_be_caught(self):
        for k, source in (
            (0, "for a in [] { show b; }"), (0, "show fn (a) { give b; };"), (0, "show fn a() { give b; };"),
            (0, "if 1 { let a = 1; show b; }"), (1, "let b = 1; if 1 { let a = 1; set b = 2; }"),
            (1, "show fn (b) { give fn (a) { give b; }; };"), (1, "for b in [] { for a in [] { if b {} } }"),
            (0, "show fn (a) { give fn () { give b; }; };"),
        ):
            self.refused(k, source, "b", BOUND_ANEW)

    def test_its_own_use_would_be_caught(self):
        for k, source in (
            (0, "for a in [] { for b in [] { show a; } }"), (0, "show fn (a) { give fn (b) { give a; }; };"),
            (0, "show fn (a) { give fn b() { give a; }; };"), (0, "if 1 { let a = 1; if 1 { let b = 1; show a; } }"),
            (0, "for a in [] { let b = 1; set a = 1; }"), (0, "show fn a(b) { give a; };"), (1, "show fn b(a) { give b; };"),
            (0, "show fn a() { let b = 1; give a; };"),
        ):
            self.refused(k, source, "b", BOUND_ANEW)

    def test_a_fault_of_names(self):
        for k, source in (
            (0, "if 1 { let a = 1; let b = 2; }"), (1, "if 1 { let b = 1; let a = 2; }"),
            (0, "do fn () { let a = 1; show a; let b = 2; show b; };"), (0, "show fn (a, b) {};"), (1, "show fn (b, a) {};"),
            (2, "show fn (b, c, a) { give c; };"), (4, "let x = fn f(c, b, a) {};"), (4, "let x = fn f(b, c, a) {};"),
        ):
            self.refused(k, source, "b", BOUND_ANEW)

    def test_equal_parameters_with_uses(self):
        self.refused(0, "show fn (a, b) { give a; };", "b", BOUND_ANEW)
        self.refused(1, "show fn (a, b) { give b; };", "a", BOUND_ANEW)
        self.refused(1, "show fn (a, b) { give a + b; };", "a", BOUND_ANEW)

    def test_a_fault_though_each_use_is_bound_as_before(self):
        self.refused(1, "if 1 { let a = 1; show a; let b = 2; show b; }", "a", BOUND_ANEW)
        self.refused(1, "show fn (a, b) { give b; };", "a", BOUND_ANEW)

    def test_parameters_of_two_functions_may_be_equal(self):
        self.changed(0, "show fn (a) { give a; } + fn (b) { give b; };", "b", "show fn (b) { give b; } + fn (b) { give b; };")
        self.changed(0, "show fn (a) { give fn (b) { give b; }; };", "b", "show fn (b) { give fn (b) { give b; }; };")


class Longest(Local):
    def filled(self, name, size):
        """A program in its form, of so many bytes, with the name at a for."""
        start = f'for {name} in [] {{}}\nshow "'
        return start + "x" * (size - len(start) - 2) + '";'

    def test_600_bytes_and_601(self):
        for size in (599, 600):
            source = self.filled("ab", size)
            self.changed(0, source, "cd", source.replace("ab", "cd"))
            self.changed(0, source, "ab", source)
        self.changed(0, self.filled("ab", 599), "abc", self.filled("ab", 599).replace("ab", "abc"))
        self.refused(0, self.filled("ab", 600), "abc", FORM_TOO_LONG)
        self.changed(0, self.filled("ab", 600), "c", self.filled("ab", 600).replace("ab", "c"))

    def test_a_form_that_is_longer_than_its_text(self):
        source = "do[fn(a){}" + ",1" * 190 + "];"
        self.changed(0, source + "show 1;", "b", "do [fn (b) {}" + ", 1" * 190 + "];\nshow 1;")
        self.assertEqual(len("do [fn (b) {}" + ", 1" * 190 + "];\nshow 12345678;"), 600)
        self.changed(0, source + "show 12345678;", "b", "do [fn (b) {}" + ", 1" * 190 + "];\nshow 12345678;")
        self.refused(0, source + "show 123456789;", "b", FORM_TOO_LONG)
        self.refused(0, source + "show 123456789;", "a", FORM_TOO_LONG)


class Refusals(Local):
    def test_the_text_comes_first(self):
        for k in (-1, 0, 1, 5, FARTHEST, -FARTHEST):
            for new in ("b", "", "let", "a"):
                for source in ("for a in [] {}", "for a in []", "give 1;", "$"):
                    self.refused(k, padded(source, 601), new, TOO_LONG)
                    self.refused(k, padded(source, 2000), new, TOO_LONG)
                for source in ("for a in []", "for a in [] {} give 1; $", "set x = 1; show x; { ", "give 007;"):
                    self.refused(k, source, new, NOT_GOOD)
                for source in (
                    "for a in [] { give a; }", "for a in [] {} set x = 1;", "let a = y; let a = z;",
                    "show fn (a, a) { give a; };", "for b in [] { let c = (a: a, a: a); }",
                    "for b in [] { slider a = 1 in 1, 1; }", "for b in [] {} slider a = 0 in 1, 1;",
                    'for b in [] {} choice a = 1 in "a";',
                ):
                    self.refused(k, source, new, NOT_SOUND)
        self.changed(0, padded("for a in [] {}", 600), "b", "for b in [] {}")

    def test_then_k_then_new_then_the_bindings_then_the_length(self):
        long = "let c = fn (a) { give b; };\ndo[1" + ",1" * 200 + "];"
        for new in ("1", "b", "d", "a"):
            self.refused(0, long, new, NO_SUCH)
            self.refused(2, long, new, NO_SUCH)
            self.refused(-1, long, new, NO_SUCH)
        self.refused(1, long, "1", NO_NEW_NAME)
        self.refused(1, long, "b", BOUND_ANEW)
        self.refused(1, long, "d", FORM_TOO_LONG)
        self.refused(1, long, "a", FORM_TOO_LONG)


if __name__ == "__main__":
    unittest.main()
