"""alike: whether two programs are the same but for names that hold within each of them alone."""

import unittest

from helper import NOT_GOOD, NOT_SOUND, TOO_LONG, alike, as_bytes, padded

from cellnames import names

YES = [1]
NO = [0]


class Alike(unittest.TestCase):
    def both_ways(self, first, second, expected):
        self.assertEqual(alike(first, second), expected, (first, second))
        self.assertEqual(alike(second, first), expected, (second, first))

    def are(self, *sources):
        for first in sources:
            for second in sources:
                self.assertEqual(alike(first, second), YES, (first, second))

    def none_are(self, *sources):
        for number, first in enumerate(sources):
            for other, second in enumerate(sources):
                self.assertEqual(alike(first, second), YES if number == other else NO, (first, second))


class Examples(Alike):
    def test_the_documents_own(self):
        self.both_ways("show fn (a) { give a; };", "show fn (b) { give b; };", YES)
        self.both_ways("let a = 1;", "let b = 1;", NO)
        self.both_ways("if(a or (b or c)){show((1+2)+3);}# x", "if a or (b or c) { show 1 + 2 + 3; }", YES)
        self.both_ways("let f = fn (y) { give x + y; };", "let f = fn (z) { give x + z; };", YES)
        self.both_ways("let f = fn (y) { give x + y; };", "let f = fn (y) { give z + y; };", NO)
        self.both_ways("for i in [1] { let i = i; set i = 2; }", "for a in [1] { let b = a; set b = 2; }", YES)
        self.both_ways("for i in [1] { let i = i; set i = 2; }", "for a in [1] { let b = b; set b = 2; }", NO)
        self.both_ways("show x; { ", "show x;", NOT_GOOD)
        self.both_ways("let n = 0; let f = fn () { set n = 1; };", "let n = 0;", NOT_SOUND)

    def test_without_statements(self):
        self.are("", " ", "\n\n", "# x", "\n # show 1;\n")
        self.none_are("", "show 1;")
        self.none_are("", "if 1 {}", "slider a = 0 in 0, 0;")


class Same(Alike):
    def test_blanks_and_comments(self):
        self.are("show a+b;", "show a + b;", "\nshow\na\n+\nb\n;\n", "show#\na# x\n+ b ; # show c;", "  show a +b;")
        self.are("let a=fn f(b){give-b;};", "let a = fn f ( b ) { give - b ; } ;")

    def test_brackets_that_change_nothing(self):
        self.are("show a + b + c;", "show (a + b) + c;", "show ((a) + (b) + (c));", "show(((a+b)+c));")
        self.are("show a or b and c;", "show a or (b and c);", "show (a) or ((b) and c);")
        self.are("show not a == b;", "show not (a == b);")
        self.are("show -a.b(c)[d];", "show -(((a.b)(c))[(d)]);", "show -(a).b((c))[d];")
        self.are("show a ? b : c;", "show (a ? b : c);", "show (a) ? (b) : (c);")
        self.are("if a {} while b {} for c in d {}", "if (a) {} while (b) {} for c in (d) {}")
        self.are("show [a, (x: b), len(c)];", "show ([(a), ((x: (b))), (len((c)))]);")

    def test_brackets_that_change_something(self):
        self.none_are("show a + b + c;", "show a + (b + c);")
        self.none_are("show a - b - c;", "show a - (b - c);")
        self.none_are("show a or b and c;", "show (a or b) and c;")
        self.none_are("show not a == b;", "show (not a) == b;")
        self.none_are("show -a.b;", "show (-a).b;")
        self.none_are("show f(a)(b);", "show f(a(b));", "show f(a, b);")
        self.none_are("show a ? b : (c ? d : e);", "show (a ? b : c) ? d : e;", "show a ? (b ? c : d) : e;")

    def test_quoted_texts_by_what_they_say(self):
        self.are(r'show "\\\"\n# x";', r'show ("\\\"\n# x") ;')
        self.are('show "";', 'show ("");')
        self.none_are('show "n";', r'show "\n";', r'show "\\n";', r'show "\\\n";', r'show "\\";', r'show "\"";', 'show "";',
                      'show " ";', 'show "nn";', 'show "#";')
        self.none_are('choice a = 0 in "n";', r'choice a = 0 in "\n";', 'choice a = 0 in "n", "n";', 'choice a = 1 in "n", "n";',
                      'choice a = 0 in "n", "m";', 'choice a = 0 in "m", "n";', 'choice a = 0 in "nn";', 'choice a = 0 in "", "nn";')

    def test_the_order_of_a_records_fields(self):
        self.none_are("show (a: 1, b: 2);", "show (b: 2, a: 1);", "show (a: 2, b: 1);", "show (b: 1, a: 2);")

    def test_an_else_that_is_there_or_not(self):
        self.none_are("if a {} else {}", "if a {}")
        self.none_are("if a { show 1; } else {}", "if a { show 1; }", "if a {} else { show 1; }")

    def test_plus_of_minus_is_not_minus(self):
        self.none_are("show 1 - 2;", "show 1 + -2;", "show -1 + 2;", "show 2 - 1;", "show -1 - 2;", "show 1 - -2;")
        self.none_are("show 0 - 1;", "show -1;", "show 1;", "show -(-1);")
        self.none_are("show -0;", "show 0;")

    def test_a_sliders_minus_before_0(self):
        self.are("slider a = 0 in 0, 0;", "slider a = -0 in 0, 0;", "slider a = 0 in - 0, 0;", "slider a = -0 in -0, -0;")
        self.none_are("slider a = 0 in -1, 1;", "slider a = 1 in -1, 1;", "slider a = -1 in -1, 1;", "slider a = 0 in 0, 1;",
                      "slider a = 0 in -1, 0;", "slider a = 0 in -1, 10;", "slider a = 0 in -10, 1;")

    def test_each_kind_of_expression(self):
        self.none_are(*[f"show {source};" for source in (
            "a", "b", "A", "aa", "1", "2", "11", '"a"', '"1"', "yes", "no", "none", "[]", "(:)", "[a]", "[[a]]", "[a, a]",
            "(a: a)", "(b: a)", "(a: a, b: a)", "(a: (b: a))", "a()", "a(a)", "a(a, a)", "a(a)(a)", "a[a]", "a.a", "a.b",
            "fn () {}", "fn f() {}", "fn (a) {}", "fn f(a) {}", "fn (a, b) {}", "fn () { show 1; }", "len(a)", "keys(a)",
            "text(a)", "num(a)", "roll(a)", "cut(a, a, a)", "with(a, a, a)", "a ? a : a", "a or a", "a and a", "not a",
            "a == a", "a != a", "a < a", "a <= a", "a > a", "a >= a", "a ++ a", "a + a", "a - a", "a * a", "a / a", "a % a",
            "-a", "not -a", "-(not a)", "1" + "0" * 29, "9" * 30,
        )])

    def test_which_list_or_call_an_expression_stands_in(self):
        self.none_are("show [[a], b];", "show [[a, b]];", "show [[], a, b];", "show [a, [b]];", "show [a, b, []];")
        self.none_are("show f(g(a), b);", "show f(g(a, b));", "show f(g(), a, b);", "show f(g)(a, b);", "show f(g, a)(b);",
                      "show f(g, a, b)();")
        self.none_are("show [[], fn () { show 1; }];", "show [[fn () { show 1; }]];", "show [fn () { show 1; }, []];")

    def test_each_kind_of_statement(self):
        self.none_are(
            "let a = b;", "show b;", "table b;", "plot b;", "check b;", "do b;", "if b {}", "if b {} else {}", "while b {}",
            "for a in b {}", "slider a = 1 in 1, 1;", 'choice a = 0 in "b";', "let a = b; set a = b;", "let a = b; show b;",
            "show b; show b;",
        )

    def test_which_block_a_statement_stands_in(self):
        self.none_are("if a { show 1; show 2; }", "if a { show 1; } show 2;", "if a {} show 1; show 2;",
                      "if a { show 1; } else { show 2; }", "if a {} else { show 1; show 2; }", "if a { show 1; show 2; } else {}",
                      "if a { show 2; show 1; }", "show 1; show 2; if a {}")
        self.none_are("if a { if b {} show 1; }", "if a { if b { show 1; } }", "if a { if b {} } show 1;",
                      "if a { if b {} else { show 1; } }", "if a { if b {} } else { show 1; }")
        self.none_are("do fn () { do fn () {}; show 1; };", "do fn () { do fn () { show 1; }; };", "do fn () { do fn () {}; }; show 1;")

    def test_the_order_of_statements(self):
        self.none_are("show 1; show 2;", "show 2; show 1;")
        self.none_are("show 1;", "show 1; show 1;", "show 1; show 1; show 1;")

    def test_a_text_beside_itself(self):
        for source in (
            "show x;", "let a = 1; set a = a;", "for a in a { let a = a; set a = fn a(a) { give a; }; }",
            'slider a = 0 in -1, 1; choice b = 0 in "x"; show a + b;', "show (a: fn () { let a = 1; give a; }).a;",
        ):
            self.assertEqual(alike(source, source), YES, source)
            text = as_bytes(source)
            self.assertEqual(names.alike(text, text), YES, source)
            self.assertEqual(text, as_bytes(source))


class NamesWithin(Alike):
    def test_a_for(self):
        self.are("for a in b { show a; set a = a + 1; }", "for c in b { show c; set c = c + 1; }",
                 "for b in b { show b; set b = b + 1; }", "for long_name_of_16_ in b { show long_name_of_16_; "
                 "set long_name_of_16_ = long_name_of_16_ + 1; }")
        self.are("for a in [] {}", "for b in [] {}")
        self.are("for a in a { show a; } show a;", "for b in a { show b; } show a;")

    def test_a_parameter(self):
        self.are("show fn (a) { give a; };", "show fn (b) { give b; };", "show fn (x1) { give (x1); };")
        self.are("show fn (a, b) { set a = b; };", "show fn (b, a) { set b = a; };", "show fn (c, d) { set c = d; };")
        self.are("show fn (a, b) {};", "show fn (b, a) {};", "show fn (c, a) {};")
        self.are("show fn (a) { give a; }(a);", "show fn (b) { give b; }(a);")

    def test_a_functions_own_name(self):
        self.are("show fn f(a) { give f(a); };", "show fn g(b) { give g(b); };", "show fn a(f) { give a(f); };")
        self.are("show fn f() {};", "show fn g() {};")
        self.are("let f = fn f() { give f; };", "let f = fn g() { give g; };")
        self.are("show fn a(a) { give a; };", "show fn f(a) { give a; };", "show fn a(f) { give f; };")

    def test_a_let_in_a_block(self):
        self.are("if 1 { let a = 2; show a; set a = a + 3; }", "if 1 { let b = 2; show b; set b = b + 3; }")
        self.are("if 1 {} else { let a = c; show a; }", "if 1 {} else { let b = c; show b; }", "if 1 {} else { let c = c; show c; }")
        self.are("while c { let a = 1; set a = 2; }", "while c { let b = 1; set b = 2; }", "while c { let c = 1; set c = 2; }")
        self.are("for a in [] { let b = a; set b = a; set a = b; }", "for b in [] { let a = b; set a = b; set b = a; }")
        self.are("show fn () { let a = 1; give a; };", "show fn () { let b = 1; give b; };")

    def test_several_at_once(self):
        self.are(
            "let o = 1; for a in o { do fn f(b, c) { let d = [a, b, c, f, o, z]; set d = d; if d { let e = d; show e; } }; }",
            "let o = 1; for c in o { do fn a(f, b) { let e = [c, f, b, a, o, z]; set e = e; if e { let d = e; show d; } }; }",
            "let o = 1; for v in o { do fn w(x, y) { let a = [v, x, y, w, o, z]; set a = a; if a { let a = a; show a; } }; }",
        )

    def test_in_functions_within_functions(self):
        self.are("show fn (a) { give fn (b) { give fn (c) { give a + b + c; }; }; };",
                 "show fn (c) { give fn (a) { give fn (b) { give c + a + b; }; }; };")
        self.are("show fn (a) { give fn (a) { give fn (a) { give a; }; }; };",
                 "show fn (a) { give fn (b) { give fn (c) { give c; }; }; };")
        self.none_are("show fn (a) { give fn (a) { give fn (a) { give a; }; }; };",
                      "show fn (a) { give fn (b) { give fn (c) { give b; }; }; };",
                      "show fn (a) { give fn (b) { give fn (c) { give a; }; }; };")

    def test_side_by_side(self):
        self.are("for a in [] { show a; } for a in [] { show a; }", "for a in [] { show a; } for b in [] { show b; }")
        self.are("show [fn (a) { give a; }, fn (a) { give a; }];", "show [fn (b) { give b; }, fn (a) { give a; }];")

    def test_a_name_changed_at_its_place_but_not_at_each_use(self):
        self.none_are("for a in [] { show a; show a; }", "for b in [] { show b; show a; }", "for b in [] { show a; show b; }",
                      "for b in [] { show a; show a; }")
        self.none_are("if 1 { let a = 1; set a = a; }", "if 1 { let b = 1; set b = a; }")
        self.none_are("show fn f() { give f; };", "show fn g() { give f; };")


class NamesOutside(Alike):
    def test_outermost_lets_sliders_and_choices(self):
        self.none_are("let a = 1; show a;", "let b = 1; show b;", "let b = 1; show a;", "let a = 1; show b;")
        self.none_are("slider a = 0 in 0, 0;", "slider b = 0 in 0, 0;")
        self.none_are("slider a = 0 in 0, 0; show a;", "slider b = 0 in 0, 0; show b;")
        self.none_are('choice a = 0 in "x";', 'choice b = 0 in "x";')
        self.none_are('choice a = 0 in "x"; show fn () { give a; };', 'choice b = 0 in "x"; show fn () { give b; };')
        self.none_are("let a = 1; set a = 2;", "let b = 1; set b = 2;")

    def test_free_uses(self):
        self.none_are("show a;", "show b;", "show ab;", "show A;")
        self.none_are("for i in a { show i; }", "for i in b { show i; }", "for i in i { show i; }")
        self.none_are("show fn (x) { give a; };", "show fn (x) { give b; };")
        self.none_are("show fn (x) { give x + a; };", "show fn (a) { give a + x; };")

    def test_fields_and_names_of_fields(self):
        self.none_are("show x.a;", "show x.b;")
        self.none_are("show (a: x);", "show (b: x);")
        self.none_are("show fn (a) { give a.a; };", "show fn (b) { give b.b; };")
        self.none_are("show fn (a) { give (a: a); };", "show fn (b) { give (b: b); };")
        self.are("show fn (a) { give (a: a).a; };", "show fn (b) { give (a: b).a; };")


class BoundElsewhere(Alike):
    def test_with_the_same_names(self):
        self.none_are("for a in [] { for b in [] { show a; } }", "for b in [] { for a in [] { show a; } }")
        self.none_are("show fn (a, b) { give a; };", "show fn (b, a) { give a; };")
        self.none_are("show fn a(b) { give a; };", "show fn b(a) { give a; };")
        self.none_are("show fn (a) { let b = 1; give a; };", "show fn (b) { let a = 1; give a; };")
        self.none_are("for a in [] { let b = 1; set a = 2; }", "for b in [] { let a = 1; set a = 2; }")

    def test_with_other_names(self):
        self.none_are("for a in [] { for b in [] { show a; } }", "for c in [] { for d in [] { show d; } }")
        self.none_are("show fn (a, b) { give a + b; };", "show fn (c, d) { give d + c; };", "show fn (c, d) { give c + c; };",
                      "show fn (c, d) { give d + d; };")
        self.none_are("show fn f(a) { give f; };", "show fn g(b) { give b; };")
        self.none_are("if 1 { let a = 1; if 2 { let b = a; show b; } }", "if 1 { let c = 1; if 2 { let d = c; show c; } }")
        self.none_are("show fn (a) { give fn (b) { give a; }; };", "show fn (c) { give fn (d) { give d; }; };")

    def test_bound_within_or_to_an_outermost_let(self):
        self.none_are("let a = 1; show fn (a) { give a; };", "let a = 1; show fn (b) { give a; };")
        self.none_are("let a = 1; for a in [] { set a = 2; }", "let a = 1; for b in [] { set a = 2; }")
        self.none_are("let a = 1; if 1 { let a = 2; show a; }", "let a = 1; if 1 { let b = 2; show a; }")
        self.none_are("slider a = 1 in 1, 1; show fn a() { give a; };", "slider a = 1 in 1, 1; show fn b() { give a; };")

    def test_bound_within_or_free(self):
        self.none_are("show fn (a) { give a; };", "show fn (b) { give a; };")
        self.none_are("for a in [] { show a; }", "for b in [] { show a; }")
        self.none_are("show fn a() { give a; };", "show fn b() { give a; };")
        self.none_are("if 1 { let a = 2; show a; }", "if 1 { let b = 2; show a; }")

    def test_before_behind_and_in_a_let(self):
        self.are("if 1 { let a = a; show a; }", "if 1 { let b = a; show b; }")
        self.none_are("if 1 { let a = a; show a; }", "if 1 { let b = b; show b; }", "if 1 { let b = a; show a; }")
        self.are("if 1 { show a; let a = 1; show a; }", "if 1 { show a; let b = 1; show b; }")
        self.none_are("if 1 { show a; let a = 1; show a; }", "if 1 { show b; let b = 1; show b; }")

    def test_in_a_for_or_behind_its_in(self):
        self.are("for a in a { show a; }", "for b in a { show b; }")
        self.none_are("for a in a { show a; }", "for b in b { show b; }")
        self.none_are("for a in [] { for b in a { show b; } }", "for a in [] { for b in a { show a; } }")


class Functions(Alike):
    def test_with_a_name_of_its_own_or_without(self):
        self.none_are("show fn f() {};", "show fn () {};")
        self.none_are("show fn f(a) { give a; };", "show fn (a) { give a; };")
        self.none_are("show fn f(a) {};", "show fn (f, a) {};")
        self.none_are("let f = fn f() { give f; };", "let f = fn () { give f; };")
        self.none_are("show fn f() {};", "show fn (f) {};")

    def test_by_how_many_parameters_they_have(self):
        self.none_are("show fn () {};", "show fn (a) {};", "show fn (a, b) {};", "show fn (a, b, c) {};")


class Largest(Alike):
    def test_as_deep_as_can_be(self):
        def source(letters):
            return "".join(f"do fn({name}){{" for name in letters) + f"show {letters[0]}+{letters[-1]};" + "};" * 18
        self.both_ways(source("abcdefghijklmnopqr"), source("rqponmlkjihgfedcba"), YES)
        self.both_ways(source("abcdefghijklmnopqr"), source("abcdefghijklmnopqr").replace("a+r", "r+a"), NO)
        chain = "show a" + "+a" * 38 + ";"
        self.both_ways(chain, chain.replace("a", "(a)"), YES)
        self.both_ways(chain, chain[:-2] + "b;", NO)

    def test_as_many_as_the_text_can_hold(self):
        many = "do fn(a){do[" + ",".join("a" * 290) + "];};"
        self.assertEqual(len(many), 595)
        self.both_ways(many, many.replace("a", "b"), YES)
        self.both_ways(many, many.replace("a]", "b]"), NO)
        blocks = "for a in[]{do a;}" * 35
        self.both_ways(blocks, "".join(f"for {name} in[]{{do {name};}}" for name in "abcde" * 7), YES)
        self.both_ways(blocks, blocks[:-3] + "b;}", NO)


REFUSED = (
    (TOO_LONG, [padded(source, size) for source in ("show a;", "show a", "give 1;", "$", "") for size in (601, 602, 2000)]),
    (NOT_GOOD, ["show a", "give 1; $", "let a = 1; let a = 2; { ", "007", "\x00", "show a" + ".b" * 39 + ";",
                "show " + "(" * 25 + "a" + ")" * 25 + ";", padded("show", 600)]),
    (NOT_SOUND, ["let a = 1; let a = 2;", "show fn (a, a) {};", "show (a: 1, a: 2);", "set a = 1;", "give 1;",
                 "if 1 { slider a = 1 in 1, 1; }", "slider a = 0 in 1, 1;", 'choice a = 1 in "a";', padded("give 1;", 600)]),
    (None, ["show a;", "", "show fn (a) { give a; };", padded("show a;", 600)]),
)


class Refusals(Alike):
    def test_in_the_first_text_in_the_second_and_in_both(self):
        for refusal, sources in REFUSED[:3]:
            for source in sources:
                self.assertEqual(alike(source, source), refusal, source)
                for sound in REFUSED[3][1]:
                    self.both_ways(source, sound, refusal)
                for other in sources:
                    self.assertEqual(alike(source, other), refusal, (source, other))

    def test_two_different_ones_both_ways_round(self):
        for number, (refusal, sources) in enumerate(REFUSED):
            for later, others in REFUSED[number + 1:]:
                for source in sources:
                    for other in others:
                        self.both_ways(source, other, refusal)

    def test_600_bytes_are_not_too_long(self):
        self.both_ways(padded("show a;", 600), "show a;", YES)
        self.both_ways(padded("show a;", 600), padded("show (a);", 600), YES)
        self.both_ways(padded("show a;", 600), padded("show b;", 600), NO)
        self.both_ways(padded("show a;", 600), padded("show a;", 601), TOO_LONG)


if __name__ == "__main__":
    unittest.main()
