"""reads: the names of free uses, sorted."""

import unittest

from helper import NOT_GOOD, NOT_SOUND, TOO_LONG, listed, made, padded, reads, told


class Examples(unittest.TestCase):
    def test_the_documents_own(self):
        self.assertEqual(reads("let f = fn (y) { give x + y; };"), [1, 1, 120])
        self.assertEqual(made("let f = fn (y) { give x + y; };"), [1, 0, 0, 1, 102])
        self.assertEqual(reads("show x; let x = 1;"), [1, 1, 120])
        self.assertEqual(made("show x; let x = 1;"), [1, 0, 1, 1, 120])
        self.assertEqual(reads("for i in [1] { let i = i; set i = 2; }"), [0])
        self.assertEqual(reads("let x = x + 1;"), listed("x"))
        self.assertEqual(reads("if(a or (b or c)){show((1+2)+3);}# x"), listed("a", "b", "c"))


class Names(unittest.TestCase):
    def test_none(self):
        for source in ("", "show 1;", "let a = 1; show a;", "show fn (a) { give a; };", 'show "a";', "# a"):
            self.assertEqual(reads(source), [0], source)

    def test_each_once(self):
        self.assertEqual(reads("show a + a; show [a, fn () { give a; }]; let a = a;"), listed("a"))

    def test_in_the_order_of_their_bytes(self):
        self.assertEqual(reads("show [c, a, b];"), listed("a", "b", "c"))
        self.assertEqual(reads("show [b, a_, _, B, a1, a, A, Z, z, aa, aA];"),
                         listed("A", "B", "Z", "_", "a", "a1", "aA", "a_", "aa", "b", "z"))

    def test_a_name_that_another_begins_with_comes_first(self):
        self.assertEqual(reads("show [abc, ab, abcd, a, b, aB];"), listed("a", "aB", "ab", "abc", "abcd", "b"))
        self.assertEqual(reads("show [x10, x1, x9, x, x100];"), listed("x", "x1", "x10", "x100", "x9"))
        longest = "a" * 16
        self.assertEqual(reads(f"show [{longest}, b, a];"), [3] + told("a") + told(longest) + told("b"))

    def test_names_of_fields_are_never_told(self):
        self.assertEqual(reads("show r.x.y; show (p: 1, q: s).p; let a = b.c(d.e)[f.g];"),
                         listed("b", "d", "f", "r", "s"))

    def test_binding_places_are_never_told(self):
        self.assertEqual(reads('let a = 1; slider b = 1 in 1, 1; choice c = 0 in "x"; for d in [] {} show fn e(f) {};'), [0])

    def test_sets_are_always_bound_where_the_text_is_sound(self):
        self.assertEqual(reads("let a = 1; set a = b;"), listed("b"))
        self.assertEqual(reads("set a = 1;"), NOT_SOUND)

    def test_uses_anywhere_in_an_expression(self):
        for around in (
            "@", "(@)", "-@", "not @", "@ ? 1 : 2", "1 ? @ : 2", "1 ? 2 : @", "1 or @", "@ and 1", "@ == 1", "1 < @",
            "1 ++ @", "@ + 1", "1 - @", "@ * 1", "1 % @", "@(1)", "1(@)", "1(2, @)", "@[1]", "1[@]", "@.y", "[@]",
            "[1, @]", "(y: @)", "(y: 1, z: @)", "fn () { give @; }", "fn f() { if @ {} }", "len(@)", "keys(@)",
            "text(@)", "num(@)", "roll(@)", "cut(@, 1, 2)", "cut(1, @, 2)", "with(1, 2, @)",
        ):
            self.assertEqual(reads("show " + around.replace("@", "xx") + ";"), listed("xx"), around)

    def test_uses_anywhere_in_a_statement(self):
        for source in (
            "let a = xx;", "let a = 1; set a = xx;", "show xx;", "table xx;", "plot xx;", "check xx;", "do xx;",
            "do fn () { give xx; };", "if xx {}", "if 1 { show xx; }", "if 1 {} else { show xx; }", "while xx {}",
            "while 1 { show 1; show xx; }", "for a in xx {}", "for a in 1 { show xx; }",
        ):
            self.assertEqual(reads(source), listed("xx"), source)


class FreeInOnePlace(unittest.TestCase):
    def test_and_bound_in_another(self):
        for source in (
            "show x; let x = 1; show x;", "if 1 { let x = 1; show x; } show x;", "for x in x { show x; }",
            "show fn (x) { give x; }(x);", "show fn x() { give x; } + x;", "let x = fn () { give x; };",
            "if 1 { let x = 1; } else { show x; }", "for x in [] {} show x;", "show [fn (x) { give x; }, x];",
            "while x { let x = 1; }", "if fn () { let x = 1; } { show x; }", "let x = fn (x) { give x; }(x);",
            "show fn () { show x; let x = 1; };", "show fn (y) { give fn (x) { give x; }; } == x;",
        ):
            self.assertEqual(reads(source), listed("x"), source)

    def test_bound_everywhere(self):
        for source in (
            "let x = 1; show fn () { show x; let x = 2; show x; };", "let x = 1; for x in x { show x; }",
            "slider x = 1 in 1, 1; show fn x() { give x; } + x;", 'choice x = 0 in "x"; if x { let x = x; show x; }',
            "show fn f() { give fn () { if f { while 1 { show f; } } }; };",
        ):
            self.assertEqual(reads(source), [0], source)


class Refusals(unittest.TestCase):
    def test_in_their_order(self):
        self.assertEqual(reads(padded("show x;", 600)), listed("x"))
        for source in ("show x;", "show x", "give x;", "$"):
            self.assertEqual(reads(padded(source, 601)), TOO_LONG)
            self.assertEqual(reads(padded(source, 2000)), TOO_LONG)
        for source in ("show x", "give x; $", "set x = 1; show x; { ", "give 007;"):
            self.assertEqual(reads(source), NOT_GOOD, source)
        for source in (
            "show x; give x;", "set x = 1;", "let x = y; let x = z;", "show fn (x, x) { give y; };",
            "show (a: x, a: y);", "if x { slider a = 1 in 1, 1; }", "show x; slider a = 0 in 1, 1;",
            'show x; choice a = 1 in "a";',
        ):
            self.assertEqual(reads(source), NOT_SOUND, source)


if __name__ == "__main__":
    unittest.main()
