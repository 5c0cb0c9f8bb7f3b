"""The one form, as rename and local tell it."""

import unittest

from helper import form

# An expression of each strength, as its form writes it.
BY_STRENGTH = (
    ("a ? b : c", 0), ("a or b", 1), ("a and b", 2), ("not a", 3),
    ("a == b", 4), ("a != b", 4), ("a < b", 4), ("a <= b", 4), ("a > b", 4), ("a >= b", 4),
    ("a ++ b", 5), ("a + b", 6), ("a - b", 6), ("a * b", 7), ("a / b", 7), ("a % b", 7), ("-a", 8),
    ("a()", 9), ("a(b, c)", 9), ("a[b]", 9), ("a.b", 9),
    ("a", 10), ("12", 10), ('"a b"', 10), ("yes", 10), ("no", 10), ("none", 10), ("[]", 10), ("[a, b]", 10),
    ("(:)", 10), ("(a: b)", 10), ("(a: b, c: d)", 10), ("fn () {}", 10), ("fn f(a, b) { give a; }", 10),
    ("len(a)", 10), ("keys(a)", 10), ("text(a)", 10), ("num(a)", 10), ("roll(a)", 10), ("cut(a, b, c)", 10),
    ("with(a, b, c)", 10),
)

# Where an expression may stand, and the strength that is wanted there.
WANTED = (
    ("@ ? x : y", 1), ("x ? @ : y", 1), ("x ? y : @", 1), ("@ or x", 1), ("x or @", 2), ("@ and x", 2), ("x and @", 3),
    ("not @", 4), ("@ == x", 5), ("x == @", 5), ("@ != x", 5), ("x != @", 5), ("@ < x", 5), ("x < @", 5),
    ("@ <= x", 5), ("x <= @", 5), ("@ > x", 5), ("x > @", 5), ("@ >= x", 5), ("x >= @", 5), ("@ ++ x", 5),
    ("x ++ @", 6), ("@ + x", 6), ("x + @", 7), ("@ - x", 6), ("x - @", 7), ("@ * x", 7), ("x * @", 8), ("@ / x", 7),
    ("x / @", 8), ("@ % x", 7), ("x % @", 8), ("-@", 9), ("@(x)", 9), ("@()", 9), ("x(@)", 0), ("x(y, @)", 0),
    ("@[x]", 9), ("x[@]", 0), ("@.x", 9), ("[@]", 0), ("[x, @]", 0), ("(x: @)", 0), ("(x: y, z: @)", 0),
    ("fn () { give @; }", 0), ("fn x(y) { show x; if @ {} }", 0), ("len(@)", 0), ("keys(@)", 0), ("text(@)", 0),
    ("num(@)", 0), ("roll(@)", 0), ("cut(@, x, y)", 0), ("cut(x, @, y)", 0), ("with(x, y, @)", 0),
)

STATEMENTS = (
    "let x = @;", "show @;", "table @;", "plot @;", "check @;", "do @;", "if @ {}", "if @ {} else {}", "while @ {}",
    "for x in @ {}", "for x in y { set x = @; }",
)


class Examples(unittest.TestCase):
    def test_the_documents_own(self):
        self.assertEqual(form("if(a or (b or c)){show((1+2)+3);}# x"), "if a or (b or c) { show 1 + 2 + 3; }")
        self.assertEqual(form("let f=fn(z){give x+z;};"), "let f = fn (z) { give x + z; };")
        self.assertEqual(form("slider x=3 in-5,10;"), "slider x = 3 in -5, 10;")
        self.assertEqual(form('choice x=0 in"a","b";'), 'choice x = 0 in "a", "b";')

    def test_without_statements(self):
        for source in ("", " \n ", "# x", "\n# x\n"):
            self.assertEqual(form(source), "", source)


class Strengths(unittest.TestCase):
    def test_each_expression_where_each_strength_is_wanted(self):
        for around, wanted in WANTED:
            for inner, strength in BY_STRENGTH:
                bracketed = around.replace("@", f"({inner})")
                expected = around.replace("@", inner) if strength >= wanted else bracketed
                self.assertEqual(form(f"show {bracketed};"), f"show {expected};")
                self.assertEqual(form(f"show(({expected}));"), f"show {expected};")

    def test_each_expression_in_each_statement(self):
        for around in STATEMENTS:
            for inner, strength in BY_STRENGTH:
                self.assertEqual(form(around.replace("@", f"({inner})")), around.replace("@", inner))

    def test_joined_from_the_left(self):
        for sign in ("or", "and", "++", "+", "-", "*", "/", "%"):
            self.assertEqual(form(f"show ((a {sign} b) {sign} c) {sign} d;"), f"show a {sign} b {sign} c {sign} d;")
            self.assertEqual(form(f"show a {sign} (b {sign} (c {sign} d));"), f"show a {sign} (b {sign} (c {sign} d));")
        self.assertEqual(form("show (a - b) + c - (d + e);"), "show a - b + c - (d + e);")
        self.assertEqual(form("show (a / b) * c % (d * e);"), "show a / b * c % (d * e);")

    def test_stronger_signs_within_weaker_ones(self):
        source = "not -a * b + c ++ d == e ++ f - g % h and i or j"
        self.assertEqual(form(f"show {source};"), f"show {source};")
        self.assertEqual(form("show (not(((((-a)*b)+c)++d)==(e++(f-(g%h))))and i)or j;"), f"show {source};")
        self.assertEqual(form("show -(a * (b + (c ++ (d == (e and (f or (g ? h : i)))))));"),
                         "show -(a * (b + (c ++ (d == (e and (f or (g ? h : i)))))));")

    def test_minus_of_minus_and_not_of_not(self):
        self.assertEqual(form("show -(-a);"), "show -(-a);")
        self.assertEqual(form("show -(-(-(1)));"), "show -(-(-1));")
        self.assertEqual(form("show not(not(a));"), "show not (not a);")
        self.assertEqual(form("show not(a and not b);"), "show not (a and not b);")
        self.assertEqual(form("show a- -b;"), "show a - -b;")
        self.assertEqual(form("show a-(-b)-(-(-c));"), "show a - -b - -(-c);")
        self.assertEqual(form("show -a.b;show(-a).b;show -(a.b);"), "show -a.b;\nshow (-a).b;\nshow -a.b;")
        self.assertEqual(form("show not a==b;show(not a)==b;"), "show not a == b;\nshow (not a) == b;")
        self.assertEqual(form("show 0 - 1; show -1; show 1 + -1; show -0;"),
                         "show 0 - 1;\nshow -1;\nshow 1 + -1;\nshow -0;")

    def test_comparisons_in_comparisons(self):
        self.assertEqual(form("show (a<b)==(c>d);"), "show (a < b) == (c > d);")
        self.assertEqual(form("show ((a)<(b));"), "show a < b;")

    def test_conditions_in_conditions(self):
        self.assertEqual(form("show (a?b:c)?(d?e:f):(g?h:i);"), "show (a ? b : c) ? (d ? e : f) : (g ? h : i);")
        self.assertEqual(form("show ((a or b)?(c and d):(not e));"), "show a or b ? c and d : not e;")

    def test_reached_from_the_left(self):
        self.assertEqual(form("show (((a(b))[c]).d)();"), "show a(b)[c].d();")
        self.assertEqual(form("show (1)(2)[3].x;"), "show 1(2)[3].x;")
        self.assertEqual(form("show (fn(){})();show([])[0];show((:)).x;show(len(a))(b);"),
                         "show fn () {}();\nshow [][0];\nshow (:).x;\nshow len(a)(b);")
        self.assertEqual(form('show ("a")[0];show(a+b)(c);show(-a)[b];'), 'show "a"[0];\nshow (a + b)(c);\nshow (-a)[b];')


class Simple(unittest.TestCase):
    def test_numbers(self):
        for number in ("0", "7", "10", "1" + "0" * 29, "9" * 30):
            self.assertEqual(form(f"show {number};"), f"show {number};")

    def test_quoted_texts(self):
        for quoted in (
            '""', '" "', '"a"', r'"\\"', r'"\""', r'"\n"', r'"\\n"', r'"\\\"\n\\"', '"#"', '"# x; ("', '"([{}])"',
            '"' + "".join(chr(byte) for byte in range(32, 127) if byte not in (34, 92)) + '"', '"let  x =1;"', '"%"',
        ):
            self.assertEqual(form(f"show({quoted});"), f"show {quoted};")
            self.assertEqual(form(f"choice c=0 in{quoted},{quoted};"), f"choice c = 0 in {quoted}, {quoted};")

    def test_lists_and_records(self):
        for source, expected in (
            ("[ ]", "[]"), ("[ (a) ]", "[a]"), ("[a,b ,c]", "[a, b, c]"), ("[[],[[]]]", "[[], [[]]]"),
            ("( : )", "(:)"), ("(a:(b))", "(a: b)"), ("(b:1,a :2, c: 3)", "(b: 1, a: 2, c: 3)"), ("((:))", "(:)"),
            ("(a:(b:(:)))", "(a: (b: (:)))"), ("(a:b?c:d)", "(a: b ? c : d)"),
        ):
            self.assertEqual(form(f"show {source};"), f"show {expected};")

    def test_functions(self):
        for source, expected in (
            ("fn(){}", "fn () {}"), ("fn f ( ){ }", "fn f() {}"), ("fn(a){}", "fn (a) {}"), ("fn f(a){}", "fn f(a) {}"),
            ("fn(a,b ,c){}", "fn (a, b, c) {}"), ("fn f(a,b){give a;}", "fn f(a, b) { give a; }"),
            ("fn(){show 1;give(2);}", "fn () { show 1; give 2; }"),
            ("fn(){give fn g(x){give x;};}", "fn () { give fn g(x) { give x; }; }"),
        ):
            self.assertEqual(form(f"show {source};"), f"show {expected};")

    def test_calls_and_words(self):
        for source, expected in (
            ("f ( )", "f()"), ("f((a))", "f(a)"), ("f(a,b,c)", "f(a, b, c)"), ("f [ a ]", "f[a]"), ("f . a", "f.a"),
            ("len (a)", "len(a)"), ("cut(a,b,c)", "cut(a, b, c)"), ("with( (a) ,(b),c)", "with(a, b, c)"),
            ("roll((6))", "roll(6)"),
        ):
            self.assertEqual(form(f"show {source};"), f"show {expected};")


class Statements(unittest.TestCase):
    def test_of_one_expression(self):
        for word in ("show", "table", "plot", "check", "do"):
            self.assertEqual(form(f"{word}(1);"), f"{word} 1;")
        self.assertEqual(form("do fn(){give(1);};"), "do fn () { give 1; };")
        self.assertEqual(form("let a=(1);set a=(2);"), "let a = 1;\nset a = 2;")

    def test_blocks(self):
        for source, expected in (
            ("if a{}", "if a {}"), ("if(a){ }else{ }", "if a {} else {}"), ("if a{show 1;}", "if a { show 1; }"),
            ("if a{show 1;show 2;}", "if a { show 1; show 2; }"), ("if a{}else{show 1;}", "if a {} else { show 1; }"),
            ("if a{show 1;}else{show 2;show 3;}", "if a { show 1; } else { show 2; show 3; }"),
            ("if a{show 1;}else{}", "if a { show 1; } else {}"), ("while(a){}", "while a {}"),
            ("while a{do b;do c;}", "while a { do b; do c; }"), ("for x in(a){}", "for x in a {}"),
            ("for x in a{let y=x;set y=1;}", "for x in a { let y = x; set y = 1; }"),
            ("if a{if b{}else{while c{}}}", "if a { if b {} else { while c {} } }"),
            ("if a{if b{}}else{}", "if a { if b {} } else {}"),
        ):
            self.assertEqual(form(source), expected)
            self.assertEqual(form(f"do fn(){{{source}}};"), f"do fn () {{ {expected} }};")

    def test_sliders(self):
        for source, expected in (
            ("slider x=3 in-5,10;", "slider x = 3 in -5, 10;"), ("slider x = - 3 in - 5 , - 1;", "slider x = -3 in -5, -1;"),
            ("slider x=0 in 0,0;", "slider x = 0 in 0, 0;"), ("slider x = -0 in 0, 1;", "slider x = 0 in 0, 1;"),
            ("slider x = 0 in -0, 1;", "slider x = 0 in 0, 1;"), ("slider x = 0 in -1, -0;", "slider x = 0 in -1, 0;"),
            ("slider x=-0 in- 0,-0;", "slider x = 0 in 0, 0;"), ("slider x=10 in-10,100;", "slider x = 10 in -10, 100;"),
            (f"slider x=1 in -{'9' * 30},{'9' * 30};", f"slider x = 1 in -{'9' * 30}, {'9' * 30};"),
        ):
            self.assertEqual(form(source), expected)

    def test_choices(self):
        self.assertEqual(form('choice x=0 in"";'), 'choice x = 0 in "";')
        self.assertEqual(form('choice x=2 in"a","b","c\\n";'), 'choice x = 2 in "a", "b", "c\\n";')

    def test_one_byte_10_between_outermost_statements(self):
        self.assertEqual(form("show 1;show 2;\n\n\nshow 3; # x\n# y\nif a{show 4;show 5;}show 6;\n"),
                         "show 1;\nshow 2;\nshow 3;\nif a { show 4; show 5; }\nshow 6;")


class Whatever(unittest.TestCase):
    def test_blanks_and_comments_change_nothing(self):
        tokens = (
            "let a = fn f ( b , c ) { if not b == - c . d [ 1 ] { set b = ( x : 2 , y : [ b , c ] ) ; } else { give c ; } } ;"
        ).split()
        expected = "let a = fn f(b, c) { if not b == -c.d[1] { set b = (x: 2, y: [b, c]); } else { give c; } };"
        for gap in (" ", "\n", " # x\n", "\n\n  ", "#)\n"):
            self.assertEqual(form(gap.join(tokens)), expected)
        self.assertEqual(form(expected), expected)

    def test_as_deep_as_can_be(self):
        deepest = "-" + "(-" * 23 + "a" + ")" * 23
        self.assertEqual(form(f"show {deepest};"), f"show {deepest};")
        chain = "a" + " + a" * 38
        self.assertEqual(form(f"show {chain};"), f"show {chain};")
        self.assertEqual(form("show " + "(" * 24 + "a" + ")" * 24 + ";"), "show a;")
        functions = "do fn(){" * 19 + "show 1;" + "};" * 19
        self.assertEqual(form(functions), "do fn () { " * 19 + "show 1;" + " };" * 19)
        blocks = "if 1{" * 23 + "show[1];" + "}" * 23
        self.assertEqual(form(blocks), "if 1 { " * 23 + "show [1];" + " }" * 23)
        reached = "a" + "[1]" * 19 + ".b" * 10 + "()" * 9
        self.assertEqual(form(f"show {reached};"), f"show {reached};")


if __name__ == "__main__":
    unittest.main()
