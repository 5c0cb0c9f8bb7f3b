"""bindings: each binding place, and how many uses are bound to it."""

import unittest

from helper import NOT_GOOD, NOT_SOUND, TOO_LONG, as_bytes, bindings, padded, reads, told

from cellnames import names

LET, SLIDER, CHOICE, FOR, OWN, PARAMETER = range(6)


def places(source):
    """What bindings answers, as tuples: kind, level, outermost, uses, name."""
    numbers = bindings(source)
    found = []
    at = 1
    for number in range(numbers[0]):
        end = at + 5 + numbers[at + 4]
        name = bytes(numbers[at + 5:end]).decode("ascii")
        found.append((*numbers[at:at + 4], name))
        at = end
    if at != len(numbers):
        raise AssertionError(f"more is told than was said: {numbers!r}")
    return found


def used(source):
    """How often each binding place is used, by number."""
    return [one[3] for one in places(source)]


class Examples(unittest.TestCase):
    def test_the_documents_own(self):
        self.assertEqual(bindings("for i in [1] { let i = i; set i = 2; }"), [2, 3, 0, 0, 1, 1, 105, 0, 0, 0, 1, 1, 105])
        self.assertEqual(bindings("let f = fn (y) { give x + y; };"), [2, 0, 0, 1, 0, 1, 102, 5, 1, 0, 1, 1, 121])
        self.assertEqual(bindings("show x; let x = 1;"), [1, 0, 0, 1, 0, 1, 120])
        self.assertEqual(bindings("let x = x + 1;"), [1, 0, 0, 1, 0, 1, 120])

    def test_none(self):
        for source in ("", "show a;", "if a {} else {}", "show fn () {};", "show (a: 1).b;"):
            self.assertEqual(bindings(source), [0], source)


class Kinds(unittest.TestCase):
    def test_each_kind(self):
        source = 'let a = 1; slider b = 1 in 1, 1; choice c = 0 in "x"; for d in [] {} do fn e(f) {};'
        self.assertEqual(places(source), [
            (LET, 0, 1, 0, "a"), (SLIDER, 0, 1, 0, "b"), (CHOICE, 0, 1, 0, "c"), (FOR, 0, 0, 0, "d"),
            (OWN, 1, 0, 0, "e"), (PARAMETER, 1, 0, 0, "f"),
        ])

    def test_names_by_all_their_bytes(self):
        for name in ("_", "Ab_9", "z" * 16):
            self.assertEqual(bindings(f"let {name} = 1; show {name};"), [1, 0, 0, 1, 1] + told(name))
            self.assertEqual(bindings(f"show fn ({name}) {{}};"), [1, 5, 1, 0, 0] + told(name))


class Levels(unittest.TestCase):
    def test_how_many_functions_it_stands_in(self):
        source = (
            "let a = fn b(c) { let d = fn e(f) { for g in [] { let h = fn (i) {}; } }; if 1 { let j = 1; } }; "
            "if 1 { let k = 1; for l in [] {} }"
        )
        self.assertEqual([(one[4], one[1]) for one in places(source)], [
            ("a", 0), ("b", 1), ("c", 1), ("d", 1), ("e", 2), ("f", 2), ("g", 2), ("h", 2), ("i", 3), ("j", 1),
            ("k", 0), ("l", 0),
        ])

    def test_behind_a_function_the_level_is_as_before(self):
        self.assertEqual([one[1] for one in places("do fn (a) {}; let b = 1; do fn (c) { do fn (d) {}; let e = 1; };")],
                         [1, 0, 1, 2, 1])
        self.assertEqual([one[1] for one in places("for a in fn (b) {} { let c = 1; }")], [0, 1, 0])
        self.assertEqual([one[1] for one in places("do [fn (a) {}, fn (b) {}];")], [1, 1])


class Outermost(unittest.TestCase):
    def test_lets_within_blocks_and_functions_are_not(self):
        source = (
            "let a = 1; if 1 { let b = 1; } else { let c = 1; } while 1 { let d = 1; } for e in [] { let f = 1; } "
            "let g = fn h(i) { let j = 1; }; do fn () { let k = 1; }; let l = 1;"
        )
        self.assertEqual([one[4] for one in places(source) if one[2] == 1], ["a", "g", "l"])
        self.assertEqual(len(places(source)), 12)

    def test_a_for_and_a_functions_names_never_are(self):
        self.assertEqual([one[2] for one in places("for a in [] {} do fn b(c) {};")], [0, 0, 0])


class Order(unittest.TestCase):
    def order(self, source):
        return "".join(one[4] for one in places(source))

    def test_a_statements_name_comes_before_the_functions_in_its_expression(self):
        self.assertEqual(self.order("let a = fn b(c, d) { let e = 1; }; let f = 1;"), "abcdef")
        self.assertEqual(self.order("for a in fn b(c) { let d = 1; } { let e = 1; } let f = 1;"), "abcdef")
        self.assertEqual(self.order("let b = 1; set b = fn a() {}; let c = 1;"), "bac")

    def test_functions_within_expressions(self):
        self.assertEqual(self.order("show fn (a) {} + fn (b) {} * fn (c) {} - -fn (d) {};"), "abcd")
        self.assertEqual(self.order("show fn (a) {} ? fn (b) {} : fn (c) {};"), "abc")
        self.assertEqual(self.order("show fn (a) {}(fn (b) {}, fn (c) {})[fn (d) {}].x(fn (e) {});"), "abcde")
        self.assertEqual(self.order("show [fn (a) {}, (x: fn (b) {}, y: fn (c) {})];"), "abc")
        self.assertEqual(self.order("show cut(fn (a) {}, fn (b) {}, fn (c) { do fn (d) {}; }) == fn (e) {};"), "abcde")
        self.assertEqual(self.order("show fn (a) {} or fn (b) {} and fn (c) {} ++ fn (d) {};"), "abcd")
        self.assertEqual(self.order("if fn (a) {} { let b = 1; } else { let c = 1; } while fn (d) {} { let e = 1; }"), "abcde")

    def test_parameters_in_the_order_of_the_text(self):
        self.assertEqual(self.order("show fn z(y, x, c, b, a) {};"), "zyxcba")


class Uses(unittest.TestCase):
    def test_they_are_counted(self):
        self.assertEqual(used("let a = 1; show a + a; show [a, (x: a)];"), [4])
        self.assertEqual(used("slider a = 1 in 1, 1; show a;"), [1])
        self.assertEqual(used('choice a = 0 in "a"; show a; show a;'), [2])
        self.assertEqual(used("for a in [] { show a; show a; show a; }"), [3])
        self.assertEqual(used("show fn f(x, y) { give f(x, f(x, 1)); };"), [2, 2, 0])

    def test_names_of_sets_are_counted(self):
        self.assertEqual(used("let a = 1; set a = 2; set a = a;"), [3])
        self.assertEqual(used("show fn (a) { set a = 1; while 1 { set a = 2; } };"), [2])

    def test_names_of_fields_are_not(self):
        self.assertEqual(used("let a = 1; show b.a; show (a: 1); show (a: a).a;"), [1])

    def test_free_ones_are_not(self):
        self.assertEqual(used("show a; let a = 1;"), [0])

    def test_within_blocks_and_functions_too(self):
        self.assertEqual(used("let a = 1; if a { show a; } else { while a { show fn () { give fn () { give a; }; }; } }"), [4])


class Holds(unittest.TestCase):
    def test_not_in_its_own_expression(self):
        self.assertEqual(used("let a = a;"), [0])
        self.assertEqual(used("let a = fn () { give a; };"), [0])
        self.assertEqual(used("if 1 { let a = 1; if 1 { let a = a + a; show a; } }"), [2, 1])
        self.assertEqual(used("let a = 1; if 1 { let a = fn () { give a; }; show a; }"), [1, 1])

    def test_from_behind_its_statement_to_the_end_of_its_block(self):
        self.assertEqual(used("show a; if 1 { show a; let a = 1; show a; if 1 { show a; } } show a;"), [2])
        self.assertEqual(used("if 1 { let a = 1; } else { show a; }"), [0])
        self.assertEqual(used("while a { let a = 1; } show a;"), [0])
        self.assertEqual(used("let a = 1; show a; show fn () { let a = a; show a; }; show a;"), [3, 1])
        self.assertEqual(used("show fn () { let a = 1; } + a;"), [0])

    def test_a_for_in_its_block_alone(self):
        self.assertEqual(used("for a in a { show a; } show a;"), [1])
        self.assertEqual(used("for a in fn () { give a; } {}"), [0])
        self.assertEqual(used("let a = 1; for a in [a, fn () { give a; }] { show a; } show a;"), [3, 1])
        self.assertEqual(used("for a in [] { for a in a { show a; } show a; }"), [2, 1])

    def test_a_functions_names_in_its_block_alone(self):
        self.assertEqual(used("show fn f(a) { give f(a); }(f, a); show f; show a;"), [1, 1])
        self.assertEqual(used("show fn f(a) { give fn () { give f(a); }; };"), [1, 1])

    def test_hiding_by_an_inner_let(self):
        self.assertEqual(used("let a = 1; if 1 { show a; let a = 2; show a; show a; set a = 3; } show a;"), [2, 3])
        self.assertEqual(used("for a in [] { show a; let a = 2; show a; }"), [1, 1])
        self.assertEqual(used("show fn (a) { show a; let a = 2; show a; };"), [1, 1])
        self.assertEqual(used("show fn a() { show a; let a = 2; show a; };"), [1, 1])

    def test_hiding_by_a_for(self):
        self.assertEqual(used("let a = 1; for a in a { show a; show a; } show a;"), [2, 2])
        self.assertEqual(used("show fn (a) { for a in a { show a; } show a; };"), [2, 1])

    def test_hiding_by_a_parameter(self):
        self.assertEqual(used("let a = 1; show fn (a) { give a; }(a);"), [1, 1])
        self.assertEqual(used("show fn (a) { give fn (a) { give a + a; }(a); };"), [1, 2])

    def test_hiding_by_a_functions_own_name(self):
        self.assertEqual(used("let a = 1; let b = fn a() { give a; }; show a;"), [1, 0, 1])

    def test_a_parameter_that_has_its_functions_own_name(self):
        self.assertEqual(used("show fn a(a) { give a; };"), [0, 1])
        self.assertEqual(used("show fn a(b, a) { set a = a; };"), [0, 0, 2])

    def test_the_same_name_let_again_in_a_block_within(self):
        self.assertEqual(used("let a = 1; if 1 { let a = a; if 1 { let a = a; show a; } show a; } show a;"), [2, 2, 1])
        self.assertEqual(used("if 1 { let a = 1; show a; } if 1 { let a = 2; show a; show a; } show a;"), [1, 2])

    def test_what_was_hidden_is_there_again_behind_the_block(self):
        self.assertEqual(used("let a = 1; for a in [] {} show a; do fn (a) {}; show a; if 1 { let a = 1; } show a;"),
                         [3, 0, 0, 0])

    def test_an_outer_name_made_later_does_not_hold_before(self):
        self.assertEqual(used("let f = fn () { give a; }; let a = 1; show f;"), [1, 0])
        self.assertEqual(reads("let f = fn () { give a; }; let a = 1; show f;"), [1, 1, 97])


class Largest(unittest.TestCase):
    def test_as_many_parameters_as_the_text_can_hold(self):
        letters = "abcdefghijklmnopqrstuvwxyz"
        pairs = [first + second for first in letters for second in letters if first + second not in ("do", "fn", "if", "in", "no", "or")]
        source = "show fn (" + ",".join(pairs[:195]) + ") {};"
        self.assertEqual(len(source), 598)
        expected = [195]
        for name in pairs[:195]:
            expected += [5, 1, 0, 0] + told(name)
        self.assertEqual(bindings(source), expected)

    def test_as_deep_as_blocks_can_be(self):
        source = "".join(f"do fn({name}){{" for name in "abcdefghijklmnopqrs") + "};" * 19
        self.assertEqual([one[1] for one in places(source)], list(range(1, 20)))
        source = "".join(f"for {name} in z{{" for name in "abcdefghijklmnopqrstuvwx") + "}" * 24
        self.assertEqual(len(places(source)), 24)


class Refusals(unittest.TestCase):
    def test_in_their_order(self):
        self.assertEqual(bindings(padded("let a = 1;", 600)), [1, 0, 0, 1, 0, 1, 97])
        for source in ("let a = 1;", "let a = 1", "give 1;", "$"):
            self.assertEqual(bindings(padded(source, 601)), TOO_LONG)
            self.assertEqual(bindings(padded(source, 2000)), TOO_LONG)
        for source in ("let a = 1", "let a = 1; give 1; $", "set x = 1; show x; { ", "give 007;"):
            self.assertEqual(bindings(source), NOT_GOOD, source)
        for source in (
            "let a = 1; give a;", "set x = 1;", "let x = y; let x = z;", "show fn (x, x) { give y; };",
            "let b = (a: x, a: y);", "if x { slider a = 1 in 1, 1; }", "slider a = 0 in 1, 1;", 'choice a = 1 in "a";',
        ):
            self.assertEqual(bindings(source), NOT_SOUND, source)


class NothingKept(unittest.TestCase):
    def test_calls_do_not_know_of_one_another(self):
        sources = ("let a = 1; show a;", "show a;", "show fn (a) { give a + b; };", "give 1;", "", "$", " " * 601)
        calls = (
            names.faults, names.made, names.reads, names.bindings, names.uses, lambda text: names.captured(0, text),
            lambda text: names.rename(text, [97], [98]), lambda text: names.local(0, text, [99]),
        )
        alone = [[call(as_bytes(one)) for call in calls] for one in sources]
        for first in range(len(sources)):
            for second in range(len(sources)):
                for number in (first, second, first):
                    text = as_bytes(sources[number])
                    self.assertEqual([call(text) for call in calls], alone[number])


if __name__ == "__main__":
    unittest.main()
