"""uses: each use in the order of the text, and what it is bound to."""

import unittest

from helper import NOT_GOOD, NOT_SOUND, TOO_LONG, padded, told, uses

FREE = -1


def met(source):
    """What uses answers, as tuples: the binding place's number, 1 for a set's, level, name."""
    numbers = uses(source)
    found = []
    at = 1
    for number in range(numbers[0]):
        end = at + 4 + numbers[at + 3]
        found.append((*numbers[at:at + 3], bytes(numbers[at + 4:end]).decode("ascii")))
        at = end
    if at != len(numbers):
        raise AssertionError(f"more is told than was said: {numbers!r}")
    return found


def bound(source):
    return [one[0] for one in met(source)]


def order(source):
    return "".join(one[3] for one in met(source))


class Examples(unittest.TestCase):
    def test_the_documents_own(self):
        self.assertEqual(uses("for i in [1] { let i = i; set i = 2; }"), [2, 0, 0, 0, 1, 105, 1, 1, 0, 1, 105])
        self.assertEqual(uses("let f = fn (y) { give x + y; };"), [2, -1, 0, 1, 1, 120, 1, 0, 1, 1, 121])
        self.assertEqual(uses("let x = x + 1;"), [1, -1, 0, 0, 1, 120])
        self.assertEqual(uses("show x; let x = 1;"), [1, -1, 0, 0, 1, 120])
        self.assertEqual(uses("let n = 0; let f = fn () { set n = 1; };"), NOT_SOUND)
        self.assertEqual(uses("show x; { "), NOT_GOOD)

    def test_none(self):
        for source in (
            "", "# x", "show 1;", 'show "x";', "let a = 1;", "slider a = 1 in 0, 2;", 'choice a = 0 in "a";',
            "for a in [] {}", "show fn a(b) {};", "show (a: 1).a;", "if yes {} else {}", "while none {}",
        ):
            self.assertEqual(uses(source), [0], source)

    def test_names_by_all_their_bytes(self):
        for name in ("_", "Ab_9", "z" * 16):
            self.assertEqual(uses(f"show {name};"), [1, -1, 0, 0] + told(name))
            self.assertEqual(uses(f"let {name} = 1; set {name} = {name};"),
                             [2, 0, 1, 0] + told(name) + [0, 0, 0] + told(name))


class Bound(unittest.TestCase):
    def test_to_each_kind_of_binding_place(self):
        source = (
            'let a = 1; slider b = 1 in 1, 1; choice c = 0 in "x"; for d in [] { show d; } do fn e(f) { give e(f); }; '
            "show [c, b, a, g];"
        )
        self.assertEqual(met(source), [
            (3, 0, 0, "d"), (4, 0, 1, "e"), (5, 0, 1, "f"), (2, 0, 0, "c"), (1, 0, 0, "b"), (0, 0, 0, "a"),
            (FREE, 0, 0, "g"),
        ])

    def test_before_and_behind_a_let(self):
        self.assertEqual(bound("show a; let a = a; show a; show a;"), [FREE, FREE, 0, 0])
        self.assertEqual(bound("show a; slider a = 1 in 1, 1; show a;"), [FREE, 0])
        self.assertEqual(bound('show a; choice a = 0 in "a"; show a;'), [FREE, 0])
        self.assertEqual(bound("let f = fn () { give a; }; let a = 1; let g = fn () { give a; };"), [FREE, 1])

    def test_in_a_lets_own_expression(self):
        self.assertEqual(bound("let a = fn () { give a; };"), [FREE])
        self.assertEqual(bound("let a = 1; if 1 { let a = a + a; show a; }"), [0, 0, 1])
        self.assertEqual(bound("for a in [] { let a = [a, fn (b) { give a; }]; show a; }"), [0, 0, 1])
        self.assertEqual(bound("show fn (a) { let a = a; give a; };"), [0, 1])

    def test_behind_the_in_of_a_for(self):
        self.assertEqual(bound("for a in a { show a; } show a;"), [FREE, 0, FREE])
        self.assertEqual(bound("let a = 1; for a in [a, fn () { give a; }] { show a; } show a;"), [0, 0, 1, 0])
        self.assertEqual(bound("for a in [] { for a in a { show a; } show a; }"), [0, 1, 0])

    def test_hidden_by_lets_in_blocks(self):
        self.assertEqual(bound("let a = 1; if a { show a; let a = a; show a; set a = a; } else { show a; } show a;"),
                         [0, 0, 0, 1, 1, 1, 0, 0])
        self.assertEqual(bound("let a = 1; while a { let a = 2; show a; if a { let a = a; show a; } show a; } show a;"),
                         [0, 1, 1, 1, 2, 1, 0])
        self.assertEqual(bound("if 1 { let a = 1; } else { show a; let a = 1; show a; } show a;"), [FREE, 1, FREE])
        self.assertEqual(bound("show fn () { show a; let a = 1; show a; } + a;"), [FREE, 0, FREE])

    def test_hidden_by_parameters(self):
        self.assertEqual(bound("let a = 1; show fn (a) { give a; }(a);"), [1, 0])
        self.assertEqual(bound("show fn (a, b) { give fn (b) { give a + b; }(b); };"), [0, 2, 1])
        self.assertEqual(bound("show fn (a) { show a; let a = 2; show a; };"), [0, 1])

    def test_hidden_by_a_functions_own_name(self):
        self.assertEqual(bound("let a = 1; let b = fn a() { give a; }; show a;"), [2, 0])
        self.assertEqual(bound("show fn a() { give fn a() { give a; }(a); } + a;"), [1, 0, FREE])
        self.assertEqual(bound("show fn a() { show a; let a = a; show a; };"), [0, 0, 1])
        self.assertEqual(bound("show fn (a) { give fn a() { give a; } + a; };"), [1, 0])

    def test_a_parameter_hides_its_functions_own_name(self):
        self.assertEqual(bound("show fn a(a) { give a; };"), [1])
        self.assertEqual(bound("show fn a(b, a) { set a = a; show a(b); };"), [2, 2, 2, 1])

    def test_a_let_behind_blocks_that_bound_the_same_name(self):
        self.assertEqual(bound("for a in [] { show a; } do fn (a) { give a; }; let a = 1; show a;"), [0, 1, 2])
        self.assertEqual(bound("if 1 { let a = 1; show a; } if 1 { let a = 2; show a; } if 1 { show a; }"), [0, 1, FREE])


class Sets(unittest.TestCase):
    def test_the_name_of_a_set_stands_before_its_expression(self):
        self.assertEqual(met("let a = 1; let b = 2; set b = a + b;"), [(1, 1, 0, "b"), (0, 0, 0, "a"), (1, 0, 0, "b")])

    def test_in_blocks_and_functions(self):
        self.assertEqual(met("let a = 1; if 1 { set a = 2; while 1 { set a = a; } } for a in [] { set a = 3; }"),
                         [(0, 1, 0, "a"), (0, 1, 0, "a"), (0, 0, 0, "a"), (1, 1, 0, "a")])
        self.assertEqual(met("let a = 1; do fn (a) { set a = 2; let b = fn () { let a = a; set a = b; }; };"),
                         [(1, 1, 1, "a"), (1, 0, 2, "a"), (3, 1, 2, "a"), (FREE, 0, 2, "b")])


class Levels(unittest.TestCase):
    def test_how_many_functions_it_stands_in(self):
        source = (
            "let a = 1; show a; if a { show a; } do fn (b) { show a; for c in a { show a; } "
            "do fn (d) { give fn () { if a { give a; } }; }(a); show a; }(a); show a;"
        )
        self.assertEqual([one[2] for one in met(source)], [0, 0, 0, 1, 1, 1, 3, 3, 1, 1, 0, 0])
        self.assertEqual(set(bound(source)), {0})

    def test_a_function_as_deep_as_can_be(self):
        source = "".join(f"do fn({name}){{" for name in "abcdefghijklmnopqrs") + "show z;show s;show a;" + "};" * 19
        self.assertEqual(met(source), [(FREE, 0, 19, "z"), (18, 0, 19, "s"), (0, 0, 19, "a")])

    def test_of_sets(self):
        self.assertEqual([one[2] for one in met("show fn () { let a = 1; set a = fn () { let b = 1; set b = a; }; };")],
                         [1, 2, 2])


class Fields(unittest.TestCase):
    def test_are_no_uses(self):
        self.assertEqual(met("let a = 1; show b.a; show (a: 1); show (a: a, b: 2).a.b;"),
                         [(FREE, 0, 0, "b"), (0, 0, 0, "a")])
        self.assertEqual(order("show a.b(c.d)[e.f].g;"), "ace")
        self.assertEqual(order("show (a: (b: c));"), "c")


class Order(unittest.TestCase):
    def test_in_each_kind_of_expression(self):
        for source, expected in (
            ("a ? b : c", "abc"), ("a or b or c", "abc"), ("a and b and c", "abc"), ("not a == b", "ab"),
            ("a != b", "ab"), ("a < b", "ab"), ("a <= b", "ab"), ("a > b", "ab"), ("a >= b", "ab"),
            ("a ++ b ++ c", "abc"), ("a + b - c", "abc"), ("a * b / c % d", "abcd"), ("-a - -b", "ab"),
            ("a + b * c - d", "abcd"), ("a * (b + c) * d", "abcd"), ("(a or b) and (c or d)", "abcd"),
            ("a(b, c)(d)", "abcd"), ("a[b][c]", "abc"), ("a[b](c).x[d]", "abcd"), ("[a, [b, c], d]", "abcd"),
            ("(x: a, y: (z: b), w: c)", "abc"), ("(a)(b)", "ab"), ("cut(a, b, c)", "abc"), ("with(a, b, c)", "abc"),
            ("len(a) + keys(b) + text(c) + num(d) + roll(e)", "abcde"),
            ("fn x(y) { show a; give b; }(c)", "abc"), ("[a, fn () { give b; }, c]", "abc"),
            ("a ? fn () { give b; } : c ++ d", "abcd"),
        ):
            self.assertEqual(order(f"show {source};"), expected, source)
            self.assertEqual(bound(f"show {source};"), [FREE] * len(expected), source)

    def test_in_each_kind_of_statement(self):
        for source, expected in (
            ("let z = a + b;", "ab"), ("show a; table b; plot c; check d; do e;", "abcde"),
            ("if a { show b; show c; } else { show d; } show e;", "abcde"), ("if a {} show b;", "ab"),
            ("while a { show b; } show c;", "abc"), ("for z in a + b { show c; } show d;", "abcd"),
            ("let z = 1; set z = a; show b;", "zab"), ("do fn () { give a; }; show b;", "ab"),
            ("if fn () { give a; } { show b; } else { show c; }", "abc"),
            ('slider y = 1 in 1, 1; choice z = 0 in "q"; show a;', "a"),
        ):
            self.assertEqual(order(source), expected, source)


class Largest(unittest.TestCase):
    def test_as_many_uses_as_the_text_can_hold(self):
        source = "let a=1;show[" + ",".join("a" * 292) + "];"
        self.assertEqual(len(source), 598)
        self.assertEqual(uses(source), [292] + [0, 0, 0, 1, 97] * 292)


class Refusals(unittest.TestCase):
    def test_in_their_order(self):
        self.assertEqual(uses(padded("show x;", 600)), [1, -1, 0, 0, 1, 120])
        for source in ("show x;", "show x", "give x;", "$"):
            self.assertEqual(uses(padded(source, 601)), TOO_LONG)
            self.assertEqual(uses(padded(source, 2000)), TOO_LONG)
        for source in ("show x", "give x; $", "set x = 1; show x; { ", "give 007;"):
            self.assertEqual(uses(source), NOT_GOOD, source)
        for source in (
            "show x; give x;", "set x = 1;", "let x = y; let x = z;", "show fn (x, x) { give y; };",
            "show (a: x, a: y);", "if x { slider a = 1 in 1, 1; }", "show x; slider a = 0 in 1, 1;",
            'show x; choice a = 1 in "a";',
        ):
            self.assertEqual(uses(source), NOT_SOUND, source)


if __name__ == "__main__":
    unittest.main()
