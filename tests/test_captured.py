"""captured: the names that one of the program's functions takes from outside of it."""

import unittest

from helper import NO_SUCH, NOT_GOOD, NOT_SOUND, TOO_LONG, captured, listed, padded, told

FARTHEST = 10 ** 18


def all_captured(source):
    """The captured names of each function by its number, each function's joined by blanks."""
    found = []
    while (numbers := captured(len(found), source)) != NO_SUCH:
        if numbers[0] < 0:
            raise AssertionError(f"refused by {numbers!r}: {source}")
        names, at = [], 1
        for number in range(numbers[0]):
            names.append(bytes(numbers[at + 1:at + 1 + numbers[at]]).decode("ascii"))
            at += 1 + numbers[at]
        if at != len(numbers):
            raise AssertionError(f"more is told than was said: {numbers!r}")
        found.append(" ".join(names))
    return found


class Examples(unittest.TestCase):
    def test_the_documents_own(self):
        self.assertEqual(captured(0, "let f = fn (y) { give x + y; };"), [1, 1, 120])
        self.assertEqual(captured(1, "let f = fn (y) { give x + y; };"), NO_SUCH)
        self.assertEqual(captured(0, "show fn (a) { give a; };"), [0])
        self.assertEqual(captured(0, "let n = 0; let f = fn () { set n = 1; };"), NOT_SOUND)
        self.assertEqual(captured(0, "for i in [1] { let i = i; set i = 2; }"), NO_SUCH)


class Names(unittest.TestCase):
    def test_nothing(self):
        for source in (
            "fn () {}", "fn f() {}", "fn (a, b) {}", "fn () { give 1; }", "fn (a) { give a; }", "fn f() { give f; }",
            "fn f(a) { give f(a); }", "fn () { let a = 1; show a; }", "fn () { for a in [] { show a; } }",
            "fn () { if 1 { let a = 1; show a; } else { let b = 1; show b; } }", "fn () { give (a: 1).b; }",
            "fn (a) { set a = a; }", "fn (a) { while a { let b = a; set b = a; } }", 'fn () { give "a"; }',
        ):
            self.assertEqual(all_captured(f"show {source};"), [""], source)

    def test_free_ones(self):
        self.assertEqual(all_captured("show fn () { give a; };"), ["a"])
        self.assertEqual(all_captured("show fn f(x) { if a { show b; } else { let y = c; } while d { do e; } };"), ["a b c d e"])
        self.assertEqual(all_captured("let a = fn () { give a; };"), ["a"])
        self.assertEqual(all_captured("let f = fn () { give a; }; let a = 1;"), ["a"])

    def test_of_outermost_lets_sliders_and_choices(self):
        source = 'let a = 1; slider b = 1 in 1, 1; choice c = 0 in "x"; show fn () { give [c, b, a]; };'
        self.assertEqual(all_captured(source), ["a b c"])

    def test_of_blocks_around(self):
        self.assertEqual(all_captured("for a in [] { if 1 { let b = 1; show fn (c) { give a + b + c; }; } }"), ["a b"])
        self.assertEqual(all_captured("let a = 1; for a in [] { show fn () { give a; }; }"), ["a"])

    def test_of_an_outer_function(self):
        self.assertEqual(all_captured("show fn f(a) { let b = 1; give fn g(c) { give [f, g, a, b, c, d]; }; };"),
                         ["d", "a b d f"])
        self.assertEqual(all_captured("show fn (a) { give fn (b) { give fn (c) { give a + b + c; }; }; };"),
                         ["", "a", "a b"])

    def test_not_what_the_functions_names_do_not_hold_in(self):
        self.assertEqual(all_captured("show fn f(a) {}(f, a);"), [""])
        self.assertEqual(all_captured("show [fn () { give b; }, a];"), ["b"])
        self.assertEqual(all_captured("show a; let b = fn () { give c; }; show d;"), ["c"])

    def test_captured_and_bound_within_too(self):
        self.assertEqual(all_captured("show fn () { show a; let a = 1; show a; };"), ["a"])
        self.assertEqual(all_captured("show fn () { let a = a; show a; };"), ["a"])
        self.assertEqual(all_captured("show fn () { for a in a { show a; } };"), ["a"])
        self.assertEqual(all_captured("show fn () { if 1 { let a = 1; } show a; };"), ["a"])
        self.assertEqual(all_captured("show fn () { give fn (a) { give a; }(a); };"), ["a", ""])
        self.assertEqual(all_captured("show fn () { give fn a() { give a; } + a; };"), ["a", ""])

    def test_bound_within_at_any_depth_is_not_captured(self):
        self.assertEqual(all_captured("show fn () { if 1 { while 1 { for a in [] { let b = a; do fn () { give a + b; }; } } } };"),
                         ["", "a b"])
        self.assertEqual(all_captured("let a = 1; show fn (a) { give fn () { give a; }; };"), ["", "a"])

    def test_the_name_of_a_set(self):
        self.assertEqual(all_captured("show fn (a) { set a = b; };"), ["b"])
        self.assertEqual(all_captured("show fn () { let a = 1; set a = fn () { let c = 1; set c = a; }; };"), ["", "a"])
        self.assertEqual(all_captured("let a = 1; set a = fn () { give b; };"), ["b"])

    def test_names_of_fields_are_not(self):
        self.assertEqual(all_captured("show fn () { give a.b + (c: d).e; };"), ["a d"])


class Sorted(unittest.TestCase):
    def test_by_bytes_each_once(self):
        self.assertEqual(captured(0, "show fn () { give [c, a, b, a, c]; };"), listed("a", "b", "c"))
        self.assertEqual(captured(0, "show fn () { give [b, a_, _, B, a1, a, A, Z, z, aa, aA]; };"),
                         listed("A", "B", "Z", "_", "a", "a1", "aA", "a_", "aa", "b", "z"))

    def test_a_name_that_another_begins_with_comes_first(self):
        self.assertEqual(captured(0, "show fn () { give [abc, ab, abcd, a, b, aB]; };"),
                         listed("a", "aB", "ab", "abc", "abcd", "b"))
        longest = "a" * 16
        self.assertEqual(captured(0, f"show fn () {{ give [{longest}, b, a]; }};"),
                         [3] + told("a") + told(longest) + told("b"))

    def test_one_name_from_two_places(self):
        self.assertEqual(all_captured("let a = 1; show fn () { show a; give fn (b) { give a; }; };"), ["a", "a"])
        self.assertEqual(all_captured("show fn (a) { give fn () { show a; let a = a; give fn () { give a; }; }; };"),
                         ["", "a", "a"])


class Numbers(unittest.TestCase):
    def test_in_the_order_of_their_words(self):
        for source, expected in (
            ("show fn () { give a; }(fn () { give b; }, fn () { give c; });", ["a", "b", "c"]),
            ("show fn () { give a; }[fn () { give b; }].x(fn () { give c; });", ["a", "b", "c"]),
            ("show [fn () { give a; }, [fn () { give b; }], fn () { give c; }];", ["a", "b", "c"]),
            ("show (x: fn () { give a; }, y: (z: fn () { give b; }), w: fn () { give c; });", ["a", "b", "c"]),
            ("show fn () { give a; } ? fn () { give b; } : fn () { give c; };", ["a", "b", "c"]),
            ("show fn () { give a; } + fn () { give b; } * -fn () { give c; };", ["a", "b", "c"]),
            ("show not fn () { give a; } and fn () { give b; } or fn () { give c; };", ["a", "b", "c"]),
            ("show cut(fn () { give a; }, fn () { give b; }, fn () { give c; });", ["a", "b", "c"]),
            ("if fn () { give a; } { do fn () { give b; }; } else { do fn () { give c; }; }", ["a", "b", "c"]),
            ("while fn () { give a; } { do fn () { give b; }; } do fn () { give c; };", ["a", "b", "c"]),
            ("for x in fn () { give a; } { do fn () { give b; }; } do fn () { give c; };", ["a", "b", "c"]),
            ("let x = fn () { give a; }; set x = fn () { give b; }; check fn () { give c; };", ["a", "b", "c"]),
        ):
            self.assertEqual(all_captured(source), expected, source)

    def test_an_outer_function_comes_before_those_in_it(self):
        source = (
            "show fn () { show a; do fn () { show b; do fn () { give c; }; do fn () { give d; }; }; "
            "do fn () { give e; }; }(fn () { give f; });"
        )
        self.assertEqual(all_captured(source), ["a b c d e", "b c d", "c", "d", "e", "f"])

    def test_in_an_if_with_an_empty_block(self):
        self.assertEqual(all_captured("if 1 {} else { do fn (a) { give a + b; }; }"), ["b"])
        self.assertEqual(all_captured("if 1 { do fn () { give a; }; } else {}"), ["a"])

    def test_as_deep_as_can_be(self):
        source = "".join(f"do fn({name}){{" for name in "abcdefghijklmnopqrs") + "show z;show s;show a;" + "};" * 19
        self.assertEqual(all_captured(source), ["z"] + ["a z"] * 18)
        self.assertEqual(captured(18, source), listed("a", "z"))

    def test_as_many_as_the_text_can_hold(self):
        source = "do[" + ",".join(["fn(){do a;}"] * 49) + "];"
        self.assertEqual(len(source), 592)
        self.assertEqual(all_captured(source), ["a"] * 49)


class K(unittest.TestCase):
    def test_at_the_edges(self):
        source = "show fn () { give a; }; show fn () { give b; }; show fn () { give c; };"
        self.assertEqual(captured(0, source), listed("a"))
        self.assertEqual(captured(2, source), listed("c"))
        for k in (-1, -2, -3, 3, 4, FARTHEST, -FARTHEST):
            self.assertEqual(captured(k, source), NO_SUCH, k)

    def test_without_functions(self):
        for source in ("", "show a;", 'show "fn"; # fn'):
            for k in (-1, 0, 1, FARTHEST, -FARTHEST):
                self.assertEqual(captured(k, source), NO_SUCH, (k, source))

    def test_a_text_that_is_refused_is_refused_whatever_k_is(self):
        function = "show fn () { give a; };"
        for k in (-1, 0, 1, FARTHEST, -FARTHEST):
            for source in (function, "show a;", "give 1;", "$"):
                self.assertEqual(captured(k, padded(source, 601)), TOO_LONG, (k, source))
                self.assertEqual(captured(k, padded(source, 2000)), TOO_LONG, (k, source))
            for source in ("show a", function + " $", "give 1; { ", function + " give 007;"):
                self.assertEqual(captured(k, source), NOT_GOOD, (k, source))
            for source in (
                function + " give 1;", "show fn () { set a = 1; };", "show fn (a, a) {};", "let a = 1; let a = 2;",
                "show fn () { give (a: 1, a: 2); };", "do fn () { slider a = 1 in 1, 1; };",
                function + " slider a = 0 in 1, 1;", function + ' choice a = 1 in "a";',
            ):
                self.assertEqual(captured(k, source), NOT_SOUND, (k, source))
        self.assertEqual(captured(0, padded(function, 600)), listed("a"))


if __name__ == "__main__":
    unittest.main()
