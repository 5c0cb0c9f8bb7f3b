"""Which lists of tokens are a PROGRAM, how deep brackets and trees may be."""

import unittest

from helper import faults, is_good, made

STATEMENTS = (
    "let a = 1;", "set a = 1;", "show 1;", "table 1;", "plot 1;", "check 1;", "do 1;", "give 1;",
    "if 1 {}", "if 1 {} else {}", "if 1 { show 1; show 2; } else { show 3; show 4; }",
    "while 1 {}", "while 1 { show 1; show 2; }", "for a in 1 {}", "for a in 1 { show 1; show 2; }",
    "slider a = 1 in 1, 1;", "slider a = -1 in -1, -1;", "slider a = - 1 in - 1, - 1;",
    'choice a = 0 in "a";', 'choice a = 0 in "a", "a", "b";',
)

NO_STATEMENTS = (
    "let a = 1", "let a 1;", "let = 1;", "let a =;", "let a;", "let;", "let", "let 1 = 1;",
    "let a.b = 1;", "let a[1] = 1;", "let (a) = 1;", "let a = b = 1;", 'let "a" = 1;', "let a, b = 1;",
    "set a = 1", "set a 1;", "set = 1;", "set a.b = 1;", "set a[0] = 1;", "set a += 1;",
    "show;", "show 1", "show 1 2;", "show 1, 2;", "show = 1;", "show a = 1;", "show", "table;", "plot;",
    "check;", "do;", "give;", "do {}", "give", "1;", "a;", "a = 1;", "f(1);", ";", "show 1;;", "{}",
    "{ show 1; }", "}", "{", "show 1; }", "show 1;)", "show x; { ",
    "if 1", "if {}", "if 1 {};", "if 1 show 1;", "if 1 {} else", "if 1 {} else show 1;", "else {}",
    "if 1 {} else if 2 {}", "if 1 {} else {} else {}", "if 1 {", "if 1 { show 1 }", "if 1 }", "if 1 {]",
    "if 1 {} {}", "while", "while 1", "while {}", "while 1 {};", "while 1 {} else {}", "while 1 {",
    "for a in 1", "for a 1 {}", "for in 1 {}", "for a in {}", "for a, b in 1 {}", "for 1 in 1 {}",
    "for a in 1 {};", "for a = 1 {}", "for (a) in 1 {}", "for a.b in 1 {}",
    "slider a = 1 in 1, 1", "slider a = 1 in 1;", "slider a = 1 in 1, 1, 1;", "slider a in 1, 1;",
    "slider a = 1;", "slider = 1 in 1, 1;", "slider a = b in 1, 1;", "slider a = (1) in 1, 1;",
    "slider a = --1 in 1, 1;", "slider a = - -1 in 1, 1;", "slider a = +1 in 1, 1;", "slider a = 1 + 1 in 1, 2;",
    "slider a = 1 in 1 1;", "slider a = 1 in [1, 1];", "slider a = - in 1, 1;", 'slider a = "1" in 1, 1;',
    'choice a = 0 in "a"', "choice a = 0 in;", "choice a = 0;", 'choice a = -1 in "a";', 'choice a in "a";',
    'choice a = 0 in "a",;', 'choice a = 0 in "a" "b";', "choice a = 0 in 1;", "choice a = 0 in b;",
    'choice a = b in "a";', 'choice a = "a" in "a";', 'choice a = 0 in ("a");', 'choice a = 0 in ["a"];',
    'choice a = 0 in "a" ++ "b";', 'choice = 0 in "a";', 'choice a = 0 in , "a";',
)

EXPRESSIONS = (
    "1", '"a"', "yes", "no", "none", "a", "[]", "[1]", "[1, 2, 3]", "(:)", "(a: 1)", "(a: 1, b: 2)", "(1)",
    "((1))", "( : )", "fn () {}", "fn f() {}", "fn (a) {}", "fn f(a, b) {}", "fn (a) { give a; }",
    "len(1)", "keys(1)", "text(1)", "num(1)", "roll(1)", "cut(1, 2, 3)", "with(1, 2, 3)",
    "a ? b : c", "(a ? b : c) ? d : e", "a ? (b ? c : d) : e", "a ? b : (c ? d : e)", "a or b ? c or d : e or f",
    "a or b or c", "a and b and c", "a or b and c or d", "not a", "not a and not b or not c", "not (not a)",
    "not a == b", "a == b", "a != b", "a < b", "a <= b", "a > b", "a >= b", "(a < b) < c", "a < (b < c)",
    "a == b and c == d", "a ++ b ++ c", "a ++ b == c ++ d", "a + b - c + d", "a - b + c", "a * b / c % d",
    "a + b * c ++ d % e - f", "-a", "- a", "1 - -2", "1--2", "1 + -2", "-(-a)", "-a * -b", "-1", "-a.b", "-f(1)",
    "a == -b", "not -a", "a ++ -b", "f()", "f(1)", "f(1, 2)", "f(1)[1].y", "f()()()", "a[1]", "a[1][2]",
    "a[b ? c : d]", "f(a ? b : c)", "[a ? b : c]", "(a: b ? c : d)", "len(a ? b : c)", "a.b", "a.b.c", "1.a",
    "1(2)", "1[2]", "yes.a", "none()", '"a"[0]', "[1][0]", "(:).a", "(a: 1).a", "fn () {}()", "fn f() {}(1).x",
    "len(a)[0]", "cut(a, b, c).d", "(a)", "(a)(b)", "(a).b", "a ? (b: 1) : (c: 2)", "a ? b : (c)", "(a: (b: c))",
    "fn () { show fn () { show 1; }; }", "a or not b", "a and not b == c", "a ? not b : not c", "[not a, -b]",
)

NO_EXPRESSIONS = (
    "", "+", "a +", "+ a", "a b", "a 1", "1 a", "1 1", "()", "(", ")", "(1", "1)", "[", "]", "[1", "1]", "[1,]",
    "[,1]", "[,]", "[1 2]", "(1, 2)", "(a: 1", "(a:)", "(a: 1,)", "(a: 1, b)", "(a, b: 1)", "(: 1)", "(:,)",
    "(1: 2)", '("a": 1)', "(a: b: c)", "((a): 1)", "(a.b: 1)", "(a = 1)", "[)", "(]", "(1}", "{1}", "{}",
    "fn", "fn {}", "fn ()", "fn f {}", "fn (1) {}", "fn (a,) {}", "fn (,a) {}", "fn (a b) {}", "fn f g() {}",
    "fn (a = 1) {}", "fn () { 1 }", "fn () 1", "fn () {", "fn (a {}", "fn ((a)) {}", "fn (a.b) {}", "fn 1() {}",
    "len", "len()", "len(1, 2)", "len 1", "len[1]", "len(", "len(1", "keys()", "keys(1, 2)", "text()",
    "text(1, 2)", "num()", "num(1, 2)", "roll()", "roll(1, 2)", "cut()", "cut(1)", "cut(1, 2)", "cut(1, 2, 3, 4)",
    "cut(1, 2, 3,)", "with()", "with(1)", "with(1, 2)", "with(1, 2, 3, 4)", "with(1, 2 3)", "len(1,)", "len.a",
    "a ? b", "a ? b :", "a ? : b", "? b : c", "a : b", "a ? b : c : d", "a ? b : c ? d : e", "a ? b ? c : d : e",
    "or a", "a or", "a or or b", "and a", "a and", "a and and b", "a or and b", "not", "not not a", "a not b",
    "a == not b", "a + not b", "-not a", "not a not b", "a < not b", "a ++ not b", "a * not b",
    "a < b < c", "a == b == c", "a == b != c", "a < b == c", "a >= b <= c", "a <", "< a", "a < < b",
    "not a == b == c", "a ++", "++ a", "a ++ ++ b", "- -a", "--a", "a - - -b", "-", "a * / b", "a *", "* a",
    "a %", "+a", "a + + b", "a.", "a.1", ".a", "a..b", "a.(b)", 'a."b"', "a[]", "a[1, 2]", "a[1", "a(1", "a(1,)",
    "a(,)", "a(1 2)", "a(b: 1)", "a{}", "let a = 1", "a = b", "a;", "a in b", "if a {}", "a!", "!a",
)


class Statements(unittest.TestCase):
    def test_each_form_is_good(self):
        for source in STATEMENTS:
            self.assertTrue(is_good(source), source)

    def test_any_number_of_them_in_any_order(self):
        self.assertTrue(is_good(" ".join(STATEMENTS)))
        self.assertTrue(is_good("".join(reversed(STATEMENTS))))

    def test_each_form_stands_in_each_block(self):
        for source in STATEMENTS:
            for block in (
                "if 1 {{ {0} }}", "if 1 {{}} else {{ {0} }}", "while 1 {{ {0} }}", "for a in 1 {{ {0} }}",
                "show fn () {{ {0} }};", "if fn () {{ {0} }} {{}}", "show [1, (x: fn () {{ {0} }})];",
            ):
                self.assertTrue(is_good(block.format(source)), block.format(source))

    def test_no_other_form_is_good(self):
        for source in NO_STATEMENTS:
            self.assertFalse(is_good(source), source)
            self.assertFalse(is_good("show 1; " + source), source)
            self.assertFalse(is_good("show fn () { " + source + " };"), source)

    def test_a_form_that_breaks_off_is_not_good(self):
        for source in (
            "let a = [1];", "if 1 { show 1; } else { show 2; }", "show fn f(a, b) { give a; };", "show (a: 1, b: (c));",
            "for a in b[1].c {}", "slider a = -1 in -1, 2;", 'choice a = 0 in "a", "b";', "set a = not -b ? c(1) : (:);",
            "while cut(a, b, c) == len(d) {}",
        ):
            whole = source.replace(" else { show 2; }", "")
            for end in range(1, len(source)):
                if source[:end].rstrip() != whole:
                    self.assertFalse(is_good(source[:end]), source[:end])


class Expressions(unittest.TestCase):
    def test_each_form_is_good(self):
        for source in EXPRESSIONS:
            self.assertTrue(is_good(f"show {source};"), source)

    def test_each_form_stands_wherever_an_expression_may(self):
        for source in EXPRESSIONS:
            for around in (
                "let a = @;", "set a = @;", "table @;", "plot @;", "check @;", "do @;", "give @;",
                "if @ {}", "while @ {}", "for a in @ {}", "show (@);", "show [1, @];", "show f(@, 1);",
                "show a[@];", "show (x: @);", "show (x: 1, y: @);", "show len(@);", "show cut(1, @, 2);",
                "show fn () { give @; };", "show (@) ? (@) : (@);", "show -(@);", "show not (@);",
            ):
                self.assertTrue(is_good(around.replace("@", source)), (around, source))

    def test_no_two_comparisons_without_brackets(self):
        signs = ("==", "!=", "<", "<=", ">", ">=")
        for first in signs:
            for second in signs:
                self.assertFalse(is_good(f"show a {first} b {second} c;"), (first, second))
                self.assertTrue(is_good(f"show (a {first} b) {second} c;"), (first, second))
                self.assertTrue(is_good(f"show a {first} (b {second} c);"), (first, second))

    def test_no_other_form_is_good(self):
        for source in NO_EXPRESSIONS:
            self.assertFalse(is_good(f"show {source};"), source)
            self.assertEqual(is_good(f"show ({source});"), source == "a : b", source)
            self.assertEqual(is_good(f"let a = [{source}];"), source == "", source)


class Brackets(unittest.TestCase):
    def test_24_deep_is_good_and_25_is_not(self):
        for left, right, inner in (
            ("(", ")", "1"), ("[", "]", ""), ("f(", ")", ""), ("a[", "]", "1"), ("(a:", ")", "1"), ("len(", ")", "1"),
            ("-(", ")", "1"), ("1+(", ")", "1"),
        ):
            for depth in (1, 23, 24):
                self.assertTrue(is_good(f"show {left * depth}{inner}{right * depth};"), (left, depth))
            for depth in (25, 26, 60):
                self.assertFalse(is_good(f"show {left * depth}{inner}{right * depth};"), (left, depth))

    def test_blocks_count_too(self):
        for depth, good in ((12, True), (24, False), (25, False)):
            self.assertEqual(is_good("if 1 {" * depth + "show [[[[[[[[[[[[1]]]]]]]]]]]];" + "}" * depth), good, depth)
        for depth, good in ((24, True), (25, False)):
            self.assertEqual(is_good("if 1 {" * depth + "}" * depth), good, depth)

    def test_functions_are_deep_by_their_blocks(self):
        self.assertTrue(is_good("if 1 {" * 23 + "do fn () {};" + "}" * 23))
        self.assertTrue(is_good("if 1 {" * 23 + "do f();" + "}" * 23))
        self.assertFalse(is_good("if 1 {" * 24 + "do fn () {};" + "}" * 24))
        self.assertFalse(is_good("if 1 {" * 24 + "do f();" + "}" * 24))

    def test_closing_ones_that_stand_between_are_taken_off(self):
        self.assertTrue(is_good("show [" + "[], " * 40 + "1];"))
        self.assertTrue(is_good("show " + "(" * 23 + "(1) + (2)" + ")" * 23 + ";"))
        self.assertTrue(is_good("show " + "(" * 24 + "1" + ")" * 24 + " + " + "[" * 24 + "]" * 24 + ";"))
        self.assertFalse(is_good("show " + "(" * 24 + "1" + ")" * 24 + " + " + "[" * 25 + "]" * 25 + ";"))
        self.assertFalse(is_good("show " + "(" * 23 + "(1) + ((2))" + ")" * 23 + ";"))
        self.assertTrue(is_good("show " + "(" * 22 + "(1) + ((2))" + ")" * 22 + ";"))

    def test_any_number_of_pairs_side_by_side(self):
        for source in ("if 1 {}" * 60, "do f();" * 60, "do [];" * 60, "do fn () {};" * 40, "do (1);" * 60, "do a[1];" * 60):
            self.assertTrue(is_good(source), source)

    def test_many_more_opening_than_closing_ones(self):
        for source in ("(" * 600, "[" * 595, "show " + "(" * 590, "{" * 600, "do fn(){" * 75, "if 1{" * 120, "f(" * 300):
            self.assertFalse(is_good(source), source)

    def test_many_more_closing_than_opening_ones(self):
        for source in (")" * 600, ")" * 300 + "(" * 300, "show 1" + ")" * 30 + "(" * 30 + ";"):
            self.assertFalse(is_good(source), source)


def chain(first, link, links):
    return "show " + first + link * links + ";"


class Depth(unittest.TestCase):
    def test_40_is_good_and_41_is_not_by_chains(self):
        for first, link in (
            ("a", ".b"), ("a", "()"), ("a", "[0]"), ("a", "(1)"), ("a", "+b"), ("a", "-b"), ("a", "*b"), ("a", "++b"),
            ("a", " or b"), ("a", " and b"), ("1", "/1"), ("1", "%1"), ('""', ".b"), ("[]", ".b"), ("(:)", ".b"),
            ("fn(){}", "()"), ("none", ".b"), ("(a)", ".b"), ("((a))", "()"),
        ):
            self.assertTrue(is_good(chain(first, link, 38)), (first, link))
            self.assertFalse(is_good(chain(first, link, 39)), (first, link))

    def test_the_longest_chains_are_refused_without_failing(self):
        for link in (".b", "()", "+b", "-b", "*b"):
            self.assertFalse(is_good(chain("a", link, 590 // len(link))))

    def test_chains_on_the_right_are_joined_from_the_left(self):
        self.assertTrue(is_good("show a" + "+b" * 37 + "+-b;"))
        self.assertTrue(is_good("show a" + "+b" * 37 + "+b.c.c;"))
        self.assertFalse(is_good("show a.c.c" + "+b" * 37 + ";"))
        self.assertTrue(is_good("show a.c" + "+b" * 37 + ";"))

    def test_behind_a_weaker_sign_they_are_too(self):
        for weak, strong in (("+", "*"), ("-", "%"), ("++", "+"), ("++", "/"), (" or ", " and ")):
            for links, good in ((35, True), (36, False)):
                source = "show a" + weak + "b" + ".x" * links + strong + "c" + strong + "d;"
                self.assertEqual(is_good(source), good, source)
                source = "show a" + weak + "b" + strong + "c" + strong + "d" + ".x" * (links + 1) + ";"
                self.assertEqual(is_good(source), good, source)

    def test_stronger_signs_are_joined_first(self):
        self.assertTrue(is_good("show a" + "+b" * 38 + ";"))
        self.assertTrue(is_good("show a+b*c" + "+b" * 36 + ";"))
        self.assertFalse(is_good("show a+b*c" + "+b" * 37 + ";"))
        self.assertTrue(is_good("show a" + "*b" * 20 + "+a" + "*b" * 36 + ";"))
        self.assertTrue(is_good("show a" + "+b" * 37 + "++a" + "+b" * 37 + ";"))
        self.assertFalse(is_good("show a" + "+b" * 38 + "++a;"))
        self.assertTrue(is_good("show a" + " and b" * 37 + " or a" + " and b" * 37 + ";"))
        self.assertFalse(is_good("show a" + " or b" * 38 + " or a and b;"))

    def test_each_two_signs_by_their_strengths(self):
        lines = ((" or ",), (" and ",), ("++",), ("+", "-"), ("*", "/", "%"))
        signs = [(strength, sign) for strength, line in enumerate(lines) for sign in line]
        for weak, first in signs:
            for strong, second in signs:
                run = (second + "b") * 37
                if weak < strong:
                    self.assertTrue(is_good("show a" + run + first + "a" + run + ";"), (first, second))
                    self.assertFalse(is_good("show a" + run + second + "b" + first + "a;"), (first, second))
                    self.assertFalse(is_good("show a" + first + "a" + run + second + "b;"), (first, second))
                if weak == strong:
                    self.assertTrue(is_good("show a" + (first + "b" + second + "b") * 19 + ";"), (first, second))
                    self.assertFalse(is_good("show a" + (first + "b" + second + "b") * 19 + first + "b;"), (first, second))

    def test_each_expression_adds_one(self):
        for around, added in (
            ("({})", 0), ("-({})", 1), ("-{}", 1), ("not {}", 1), ("({}) ? 1 : 2", 1), ("1 ? {} : 2", 1),
            ("1 ? 2 : {}", 1), ("{} == 1", 1), ("1 < {}", 1), ("[1, {}]", 1), ("(x: {})", 1), ("(x: 1, y: {})", 1),
            ("f({})", 1), ("f(1, {})", 1), ("a[{}]", 1), ("{}.x", 1), ("len({})", 1), ("cut({}, 1, 2)", 1),
            ("cut(1, {}, 2)", 1), ("with(1, 2, {})", 1), ("fn () {{ show {}; }}", 2), ("1 + {}", 1),
            ("fn () {{ if {} {{}} }}", 2), ("fn () {{ if 1 {{ show {}; }} }}", 3), ("-[{}].x", 3),
        ):
            for inner, good in ((38 - added, True), (39 - added, False)):
                source = "show " + around.format("a" + ".b" * inner) + ";"
                self.assertEqual(is_good(source), good, source)

    def test_each_statement_adds_one(self):
        for around, added in (
            ("let a = {};", 1), ("set a = {};", 1), ("table {};", 1), ("plot {};", 1), ("check {};", 1), ("do {};", 1),
            ("give {};", 1), ("if {} {{}}", 1), ("if 1 {{ show {}; }}", 2), ("if 1 {{}} else {{ show {}; }}", 2),
            ("if 1 {{ show 1; show {}; show 1; }} else {{}}", 2), ("while {} {{}}", 1), ("while 1 {{ show {}; }}", 2),
            ("for a in {} {{}}", 1), ("for a in 1 {{ show {}; }}", 2), ("for a in 1 {{ if {} {{}} }}", 2),
        ):
            for inner, good in ((39 - added, True), (40 - added, False)):
                source = around.format("a" + ".b" * inner)
                self.assertEqual(is_good(source), good, source)

    def test_what_has_no_parts_has_depth_1(self):
        for inner, depth in (
            ("slider b = 1 in 1, 1;", 1), ('choice b = 0 in "a", "b";', 1), ("do 1;", 2), ('do "";', 2), ("do yes;", 2),
            ("do [];", 2), ("do (:);", 2), ("do fn f(a, b) {};", 2), ("if 1 {}", 2), ("do f();", 3), ("do -1;", 3),
            ("do (a: 1);", 3), ("do [1];", 3), ("if 1 { do 1; }", 3), ("if 1 { slider b = 1 in 1, 1; }", 2), ("", 0),
        ):
            for blocks in range(8):
                source = "if 1 {" * blocks + "do fn(){" * 18 + inner + "};" * 18 + "}" * blocks
                self.assertEqual(is_good(source), 36 + depth + blocks <= 40, source)

    def test_a_program_is_as_deep_as_its_deepest_statement(self):
        self.assertTrue(is_good(chain("a", ".b", 38) * 2 + "show 1;"))
        self.assertFalse(is_good("show 1;" + chain("a", ".b", 39) + "show 1;"))

    def test_depth_is_asked_of_the_whole_text(self):
        self.assertEqual(faults("give 1; " + chain("a", ".b", 39)), [-2])
        self.assertEqual(made("give 1; " + chain("a", ".b", 39)), [-2])


if __name__ == "__main__":
    unittest.main()
