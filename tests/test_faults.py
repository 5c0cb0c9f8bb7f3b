"""faults: the eight kinds of fault, where they are and where they only seem to be."""

import unittest

from helper import NOT_GOOD, NOT_SOUND, faults, made, pairs

# Each puts a statement, in place of @, deep within an outermost one at level 0.
WITHIN_BLOCKS = (
    "if 1 { @ }", "if 1 {} else { @ }", "while 1 { @ }", "for i in [1] { @ }",
    "if 1 { while 2 { for i in [] { if 3 {} else { show 1; @ show 2; } } } }",
)

# Each puts a statement deep within an outermost one, inside of functions.
WITHIN_FUNCTIONS = (
    "show fn () { @ };", "let q = fn f(p) { @ };", "show [1, (x: fn () { @ })];", "if fn () { @ } {}",
    "while -len(fn () { @ }(1)) {}", "for i in 1 + fn () { @ } {}", "do f(1, fn () { @ });",
    "show 1 ? 2 : fn () { if 1 {} else { @ } };", "show cut(1, 2, fn () { show fn () { @ }; }) ++ 1;",
    "show not fn () { @ } == 1;", "show a[fn () { @ }.x];", "show 1 or 2 and fn () { @ };", "check fn () { @ } ? 1 : 2;",
    "if 1 { let q = fn () { while 1 { @ } }; }", "table with(fn () { @ }, 1, 2);", "plot 1 - 2 * -fn () { @ };",
)

EVERYWHERE = ("@",) + WITHIN_BLOCKS + WITHIN_FUNCTIONS


class Examples(unittest.TestCase):
    def test_the_documents_own(self):
        self.assertEqual(faults("let n = 0; let f = fn () { set n = 1; };"), [1, 1, 4])
        self.assertEqual(made("let n = 0; let f = fn () { set n = 1; };"), NOT_SOUND)
        self.assertEqual(faults("for i in [1] { let i = i; set i = 2; }"), [0])
        self.assertEqual(made("for i in [1] { let i = i; set i = 2; }"), [0])
        self.assertEqual(faults("show x; { "), NOT_GOOD)
        self.assertEqual(made("show x; { "), NOT_GOOD)
        self.assertEqual(faults("let f = fn (y) { give x + y; };"), [0])
        self.assertEqual(faults("show x; let x = 1;"), [0])
        self.assertEqual(faults("if(a or (b or c)){show((1+2)+3);}# x"), [0])
        self.assertEqual(faults("let x = x + 1;"), [0])


class Fault1(unittest.TestCase):
    def test_each_two_that_make_one_name_in_a_block(self):
        makers = {"let a = 1;": [], "slider a = 1 in 1, 1;": [6], 'choice a = 0 in "a";': [6]}
        for first in makers:
            for second in makers:
                self.assertEqual(pairs(first + second), [(1, 1)])
                inner = sorted([1] + sorted(set(makers[first] + makers[second])))
                for around in WITHIN_BLOCKS + WITHIN_FUNCTIONS:
                    source = "show 1;" + around.replace("@", first + "show 2;" + second)
                    self.assertEqual(pairs(source), [(1, kind) for kind in inner], source)

    def test_the_later_statements_are_the_ones_at_fault(self):
        self.assertEqual(pairs("show 1; let a = 1; show 2; let a = 2; show 3;"), [(3, 1)])
        self.assertEqual(pairs("let a = 1; let a = 2; let b = 1; let a = 3;"), [(1, 1), (3, 1)])
        self.assertEqual(pairs("let a = 1; let b = 2; let b = 3; let a = 4;"), [(2, 1), (3, 1)])

    def test_the_same_name_in_different_blocks(self):
        for source in (
            "let a = 1; if 1 { let a = 2; } else { let a = 3; } while 1 { let a = 4; } for i in [] { let a = 5; }",
            "if 1 { let a = 1; } let a = 2; show fn () { let a = 3; };",
            "let a = fn () { let a = 1; };",
            "show fn () { let a = 1; show fn () { let a = 2; }; if 1 { let a = 3; } };",
            "if 1 { let a = 1; } if 1 { let a = 1; }",
            "show [fn () { let a = 1; }, fn () { let a = 1; }];",
        ):
            self.assertEqual(faults(source), [0], source)

    def test_an_outer_name_let_again_behind_a_block(self):
        self.assertEqual(pairs("let a = 1; if 1 { let a = 2; } let a = 3;"), [(2, 1)])
        self.assertEqual(pairs("if 1 { let a = 1; if 2 { let a = 2; } let a = 3; }"), [(0, 1)])

    def test_other_binding_places_make_no_name(self):
        for source in (
            "for a in [] { let a = 1; }", "for a in [] {} for a in [] {} let a = 1;", "let a = 1; for a in [] {}",
            "show fn (a) { let a = 1; };", "show fn a() { let a = 1; };", "let a = fn a() {};", "let a = fn (a) {};",
            "let a = 1; set a = 2; set a = 3;", "show fn a(b) { let b = 1; let a = 2; };",
            "for a in [] { for a in [] { let a = a; } }",
        ):
            self.assertEqual(faults(source), [0], source)

    def test_names_are_told_apart_by_all_their_bytes(self):
        self.assertEqual(faults("let a = 1; let A = 1; let aa = 1; let a_ = 1; let _a = 1; let a1 = 1;"), [0])
        self.assertEqual(faults("let abcdefghijklmnop = 1; let abcdefghijklmnoq = 1;"), [0])
        self.assertEqual(faults("let abcdefghijklmnop = 1; let abcdefghijklmnop = 1;"), [1, 1, 1])


class Fault2(unittest.TestCase):
    def test_equal_parameters_anywhere(self):
        for around in EVERYWHERE:
            for function in ("fn (a, a) {}", "fn f(a, b, a) {}", "fn (b, a, c, a, a) {}", "fn (a, b, b, a) {}"):
                source = "show 1;" + around.replace("@", f"do {function};")
                self.assertEqual(pairs(source), [(1, 2)], source)

    def test_what_only_looks_like_it(self):
        for source in (
            "show fn a(a) {};", "show fn (a) { give fn (a) {}; };", "show [fn (a) {}, fn (a) {}];",
            "show fn (a, A, aa) {};", "let a = fn (a) {};", "show fn (a) { for a in [] {} };", "show f(a, a);",
            "show fn (a, b) { give (a: fn (a, b) {}); };",
        ):
            self.assertEqual(faults(source), [0], source)


class Fault3(unittest.TestCase):
    def test_equal_fields_anywhere(self):
        for around in EVERYWHERE:
            for record in ("(a: 1, a: 2)", "(b: 1, a: 2, c: 3, a: 4)", "(a: 1, a: 1, a: 1)", "(x: (a: 1, a: 2))"):
                source = "show 1;" + around.replace("@", f"do {record};")
                self.assertEqual(pairs(source), [(1, 3)], source)

    def test_in_each_expression(self):
        record = "(a: 1, a: 2)"
        for around in (
            "@.a", "@[1]", "@(1)", "f(@)", "f(1, @)", "a[@]", "[1, @]", "(b: @)", "(b: 1, c: @)", "-@", "not @",
            "@ == 1", "1 < @", "@ + 1", "1 * @", "1 ++ @", "@ or 1", "1 and @", "@ ? 1 : 2", "1 ? @ : 2", "1 ? 2 : @",
            "len(@)", "keys(@)", "text(@)", "num(@)", "roll(@)", "cut(@, 1, 2)", "with(1, @, 2)", "with(1, 2, @)", "(@)",
        ):
            self.assertEqual(faults("show " + around.replace("@", record) + ";"), [1, 0, 3], around)

    def test_what_only_looks_like_it(self):
        for source in (
            "show (a: (a: (a: 1)));", "show [(a: 1), (a: 2)];", "show (a: 1, A: 2, aa: 3);", "show (a: a, b: a);",
            "show (:);", "show (a: 1).a.a;", "let a = (a: a);", "show (a: 1, b: (a: 1, b: 2));",
        ):
            self.assertEqual(faults(source), [0], source)


class Fault4(unittest.TestCase):
    def test_a_free_name(self):
        for around in EVERYWHERE:
            source = "show 1;" + around.replace("@", "set z = 1;")
            self.assertEqual(pairs(source), [(1, 4)], source)

    def test_a_name_that_does_not_hold_yet_or_no_more(self):
        for source, statement in (
            ("set a = 1; let a = 1;", 0), ("if 1 { let a = 1; } set a = 2;", 1),
            ("if 1 { let a = 1; } else { set a = 2; }", 0), ("for a in [] {} set a = 1;", 1),
            ("show fn (a) {}; set a = 1;", 1), ("let a = fn () { set a = 1; };", 0),
            ("show fn () { let a = 1; }; set a = 2;", 1), ("if 1 { set a = 1; let a = 2; }", 0),
            ("for a in fn () { set a = 1; } {}", 0), ("while 1 { let a = 1; } set a = 2;", 1),
            ("show fn () { let a = fn () { set a = 1; }; };", 0),
        ):
            self.assertEqual(pairs(source), [(statement, 4)], source)

    def test_a_slider_or_a_choice(self):
        self.assertEqual(pairs("slider a = 1 in 1, 2; set a = 2;"), [(1, 4)])
        self.assertEqual(pairs('choice a = 0 in "a", "b"; set a = 1;'), [(1, 4)])
        self.assertEqual(pairs("slider a = 1 in 1, 2; if 1 { set a = 2; }"), [(1, 4)])
        self.assertEqual(pairs("slider a = 1 in 1, 2; if 1 { let a = 2; set a = 3; }"), [])
        self.assertEqual(pairs("slider a = 1 in 1, 2; for a in [] { set a = 3; }"), [])

    def test_a_functions_own_name(self):
        self.assertEqual(pairs("show fn f() { set f = 1; };"), [(0, 4)])
        self.assertEqual(pairs("show fn f() { if 1 { set f = 1; } };"), [(0, 4)])
        self.assertEqual(pairs("show fn f(f) { set f = 1; };"), [])
        self.assertEqual(pairs("show fn f() { let f = 1; set f = 2; };"), [])
        self.assertEqual(pairs("let f = fn f() {}; set f = 1;"), [])
        self.assertEqual(pairs("show fn f() { give fn () { set f = 1; }; };"), [(0, 4)])

    def test_another_level(self):
        for source, statement in (
            ("let a = 1; show fn () { set a = 2; };", 1),
            ("let a = 1; if 1 { show fn () { set a = 2; }; }", 1),
            ("for a in [] { show fn () { set a = 2; }; }", 0),
            ("show fn (a) { show fn () { set a = 1; }; };", 0),
            ("show fn () { let a = 1; show fn () { set a = 1; }; };", 0),
            ("show fn () { let a = 1; show fn () { show fn () { set a = 1; }; }; };", 0),
            ("let a = 1; show fn (a) { show fn () { set a = 1; }; };", 1),
            ("let a = 1; set a = fn () { set a = 2; };", 1),
        ):
            self.assertEqual(pairs(source), [(statement, 4)], source)

    def test_the_same_level(self):
        for source in (
            "let a = 1; set a = 2;", "let a = 1; if 1 { set a = 2; } else { set a = 3; }",
            "let a = 1; while 1 { for i in [] { set a = 2; } }", "for a in [] { set a = 1; }",
            "for a in [] { if 1 { set a = 1; } }", "show fn (a) { set a = 1; };", "show fn (a) { while 1 { set a = 1; } };",
            "show fn () { let a = 1; set a = 2; };", "show fn () { for a in [] { set a = 1; } };",
            "show fn () { show fn (a) { set a = 1; }; };", "let a = 1; set a = set_;", "let a = 1; set a = a;",
            "let a = 1; show fn () { let a = 2; set a = 3; };", "let a = 1; show fn (a) { set a = 3; }; set a = 4;",
            "let a = 1; show fn () { show a; };", "let a = 1; if 1 { let a = 2; set a = 3; } set a = 4;",
        ):
            self.assertEqual(faults(source), [0], source)

    def test_the_nearest_binding_place_counts(self):
        self.assertEqual(pairs("let a = 1; show fn a() { set a = 1; };"), [(1, 4)])
        self.assertEqual(pairs("let a = 1; show fn () { set a = 1; let a = 2; };"), [(1, 4)])
        self.assertEqual(pairs("show fn a() { let b = fn (a) { set a = 1; }; };"), [])
        self.assertEqual(pairs("slider a = 1 in 1, 2; let a = 1; set a = 2;"), [(1, 1)])
        self.assertEqual(pairs("let a = 1; slider a = 1 in 1, 2; set a = 2;"), [(1, 1), (2, 4)])
        self.assertEqual(pairs("show fn (a, a) { set a = 1; };"), [(0, 2)])


class Fault5(unittest.TestCase):
    def test_level_0(self):
        for around in ("@",) + WITHIN_BLOCKS:
            source = "show 1;" + around.replace("@", "give 1;")
            self.assertEqual(pairs(source), [(1, 5)], source)

    def test_within_a_function(self):
        for around in WITHIN_FUNCTIONS:
            self.assertEqual(faults(around.replace("@", "give 1;")), [0], around)

    def test_behind_a_function(self):
        self.assertEqual(pairs("show fn () { give 1; }; give 2;"), [(1, 5)])
        self.assertEqual(pairs("if fn () { give 1; } { give 2; }"), [(0, 5)])
        self.assertEqual(pairs("give fn () { give 1; };"), [(0, 5)])


class Fault6(unittest.TestCase):
    def test_not_outermost(self):
        for around in WITHIN_BLOCKS + WITHIN_FUNCTIONS:
            for asking in ("slider a = 1 in 1, 1;", 'choice a = 0 in "a";'):
                source = "show 1;" + around.replace("@", asking)
                self.assertEqual(pairs(source), [(1, 6)], source)

    def test_outermost(self):
        self.assertEqual(faults('if 1 {} slider a = 1 in 1, 1; show fn () {}; choice b = 0 in "a"; if 1 {}'), [0])


class Fault7(unittest.TestCase):
    def test_at_below_and_above_the_limits(self):
        for first, least, most, sound in (
            (1, 1, 1, True), (1, 1, 2, True), (2, 1, 2, True), (0, 1, 2, False), (3, 1, 2, False), (2, 1, 3, True),
            (0, 0, 0, True), (-1, 0, 0, False), (1, 0, 0, False), (-5, -5, -3, True), (-3, -5, -3, True),
            (-4, -5, -3, True), (-6, -5, -3, False), (-2, -5, -3, False), (4, -5, -3, False), (0, -1, 1, True),
            (1, 2, 0, False), (2, 2, 0, False), (0, 2, 0, False), (3, 2, 0, False), (10, 9, 11, True), (9, 10, 11, False),
            (10, -9, 9, False), (-10, -9, 9, False), (10 ** 30 - 1, 10 ** 30 - 2, 10 ** 30 - 1, True),
            (10 ** 30 - 2, 10 ** 30 - 1, 10 ** 30 - 1, False), (10 ** 30 - 1, 0, 10 ** 30 - 2, False),
            (1 - 10 ** 30, 1 - 10 ** 30, 0, True), (1 - 10 ** 30, 2 - 10 ** 30, 0, False),
        ):
            source = f"slider a = {first} in {least}, {most};"
            self.assertEqual(faults(source), [0] if sound else [1, 0, 7], source)
            self.assertEqual(made(source), [1, 1, 0, 1, 97] if sound else NOT_SOUND, source)

    def test_minus_0_is_0(self):
        self.assertEqual(faults("slider a = -0 in 0, 0;"), [0])
        self.assertEqual(faults("slider a = 0 in -0, -0;"), [0])
        self.assertEqual(faults("slider a = -0 in 1, 2;"), [1, 0, 7])

    def test_deep_within(self):
        for around in WITHIN_BLOCKS + WITHIN_FUNCTIONS:
            source = "show 1;" + around.replace("@", "slider a = 3 in 1, 2;")
            self.assertEqual(pairs(source), [(1, 6), (1, 7)], source)


class Fault8(unittest.TestCase):
    def test_at_how_many_texts_there_are(self):
        for texts in (1, 2, 3, 11):
            for number in (0, texts - 1, texts, texts + 1, 10 ** 29):
                source = f"choice a = {number} in " + ", ".join(['"a"'] * texts) + ";"
                self.assertEqual(faults(source), [0] if number < texts else [1, 0, 8], source)
                self.assertEqual(made(source), [1, 2, 0, 1, 97] if number < texts else NOT_SOUND, source)

    def test_deep_within(self):
        for around in WITHIN_BLOCKS + WITHIN_FUNCTIONS:
            source = "show 1;" + around.replace("@", 'choice a = 2 in "a", "b";')
            self.assertEqual(pairs(source), [(1, 6), (1, 8)], source)


class Several(unittest.TestCase):
    EVERY_KIND = (
        'if set_ { give (a: fn (b, b) {}, a: 1); set z = 1; slider c = 3 in 1, 2; choice c = 1 in "a"; }'
    )

    def test_all_kinds_in_one_statement(self):
        self.assertEqual(faults(self.EVERY_KIND), [8, 0, 1, 0, 2, 0, 3, 0, 4, 0, 5, 0, 6, 0, 7, 0, 8])
        self.assertEqual(made(self.EVERY_KIND), NOT_SOUND)

    def test_all_kinds_in_several_statements(self):
        source = "show 1;" + self.EVERY_KIND + "show 2;" + self.EVERY_KIND
        expected = [(statement, kind) for statement in (1, 3) for kind in range(1, 9)]
        self.assertEqual(pairs(source), expected)

    def test_each_pair_is_told_once(self):
        self.assertEqual(pairs("if 1 { give 1; give 2; while 2 { give 3; } }"), [(0, 5)])
        self.assertEqual(pairs("if 1 { set a = 1; set b = 2; show fn () { set c = 3; }; }"), [(0, 4)])
        self.assertEqual(pairs("show [(a: 1, a: 2), (b: 1, b: 2), fn (a, a, a) {}, fn (b, b) {}];"), [(0, 2), (0, 3)])

    def test_kinds_from_the_least_on_whatever_their_order_in_the_text(self):
        self.assertEqual(pairs("if 1 { give 1; set z = (a: 1, a: fn (b, b) {}); }"), [(0, 2), (0, 3), (0, 4), (0, 5)])
        self.assertEqual(pairs("slider a = 3 in 1, 2; slider a = 3 in 1, 2;"), [(0, 7), (1, 1), (1, 7)])

    def test_statements_in_their_order_past_ten(self):
        source = "".join("give 1;" if number % 2 == 0 else "show 1;" for number in range(24))
        self.assertEqual(pairs(source), [(number, 5) for number in range(0, 24, 2)])

    def test_every_one_kind_is_unsound(self):
        for source in (
            "let a = 1; let a = 2;", "show fn (a, a) {};", "show (a: 1, a: 2);", "set a = 1;", "give 1;",
            "if 1 { slider a = 1 in 1, 1; }", 'if 1 { choice a = 0 in "a"; }', "slider a = 0 in 1, 1;",
            'choice a = 1 in "a";',
        ):
            self.assertEqual(faults(source)[0], 1, source)
            self.assertEqual(made(source), NOT_SOUND, source)

    def test_not_good_comes_before_not_sound(self):
        for source in ("give 1; $", "set a = 1; show", "let a = 1; let a = 2; {", "give 007;"):
            self.assertEqual(faults(source), NOT_GOOD, source)
            self.assertEqual(made(source), NOT_GOOD, source)


if __name__ == "__main__":
    unittest.main()
