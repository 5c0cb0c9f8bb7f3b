"""split: a program's first k outermost statements, and all others, each as a program in its form."""

import unittest

from helper import NO_SUCH, NOT_GOOD, NOT_SOUND, SET_PARTED, TOO_LONG, padded, split, told

FARTHEST = 10 ** 18


class Split(unittest.TestCase):
    def parted(self, k, source, first, second):
        self.assertEqual(split(k, source), told(first) + told(second), (k, source))

    def refused(self, k, source, refusal):
        self.assertEqual(split(k, source), refusal, (k, source))

    def answers_by_k(self, source, expected):
        """For each k from 0 on: one sign, - for a set that would be parted, + for an answer."""
        found = "".join("-" if split(k, source) == SET_PARTED else "+" for k in range(len(expected)))
        self.assertEqual(found, expected, source)
        self.refused(len(expected), source, NO_SUCH)


class Examples(Split):
    def test_the_documents_own(self):
        source = "if(a or (b or c)){show((1+2)+3);}# x"
        self.parted(0, source, "", "if a or (b or c) { show 1 + 2 + 3; }")
        self.parted(1, source, "if a or (b or c) { show 1 + 2 + 3; }", "")
        self.refused(2, source, NO_SUCH)
        self.parted(1, "let f = fn (y) { give x + y; };", "let f = fn (y) { give x + y; };", "")
        self.parted(1, "for i in [1] { let i = i; set i = 2; }", "for i in [1] { let i = i; set i = 2; }", "")
        self.parted(1, "show x; let x = 1;", "show x;", "let x = 1;")
        self.refused(0, "show x; { ", NOT_GOOD)
        self.refused(1, "let n = 0; let f = fn () { set n = 1; };", NOT_SOUND)

    def test_number_by_number(self):
        self.assertEqual(split(1, "show 1;do(a);"), [7, 115, 104, 111, 119, 32, 49, 59, 5, 100, 111, 32, 97, 59])
        self.assertEqual(split(0, "do(a);"), [0, 5, 100, 111, 32, 97, 59])
        self.assertEqual(split(1, "do(a);"), [5, 100, 111, 32, 97, 59, 0])


class K(Split):
    source = "show 1; if a { show 2; show 3; } do fn () { show 4; };"

    def test_from_none_to_all(self):
        self.parted(0, self.source, "", "show 1;\nif a { show 2; show 3; }\ndo fn () { show 4; };")
        self.parted(1, self.source, "show 1;", "if a { show 2; show 3; }\ndo fn () { show 4; };")
        self.parted(2, self.source, "show 1;\nif a { show 2; show 3; }", "do fn () { show 4; };")
        self.parted(3, self.source, "show 1;\nif a { show 2; show 3; }\ndo fn () { show 4; };", "")

    def test_beyond_the_edges(self):
        for k in (-1, -2, -3, -4, 4, 5, 6, 600, FARTHEST, -FARTHEST):
            self.refused(k, self.source, NO_SUCH)

    def test_without_statements(self):
        for source in ("", " \n", "# show 1;"):
            self.assertEqual(split(0, source), [0, 0])
            for k in (-1, 1, 2, FARTHEST, -FARTHEST):
                self.refused(k, source, NO_SUCH)

    def test_each_kind_of_statement_counts_once(self):
        statements = (
            "let a = 1;", "show fn () { show 1; show 2; };", "table 1;", "plot 1;", "check 1;", "do 1;",
            "if 1 { show 1; show 2; }", "if 1 { show 1; } else { show 2; }", "while 1 { show 1; show 2; }",
            "for b in [] { show 1; show 2; }", "slider c = 0 in -1, 1;", 'choice d = 0 in "a", "b";',
        )
        for k in range(len(statements) + 1):
            self.parted(k, "".join(statements), "\n".join(statements[:k]), "\n".join(statements[k:]))
            self.parted(k, " # x\n".join(statements), "\n".join(statements[:k]), "\n".join(statements[k:]))
        self.refused(len(statements) + 1, "".join(statements), NO_SUCH)

    def test_as_many_statements_as_the_text_can_hold(self):
        source = "do a;" * 120
        for k in (0, 1, 59, 60, 119, 120):
            self.parted(k, source, "\n".join(["do a;"] * k), "\n".join(["do a;"] * (120 - k)))
        self.refused(121, source, NO_SUCH)


class Forms(Split):
    def test_on_both_sides(self):
        source = 'let a=(1);show((1+2)+3);if(a){}else{show"x";}slider s=-0 in-1,1;for b in(a){set b=-(b);}show fn(){give(:);};'
        forms = (
            "let a = 1;", "show 1 + 2 + 3;", 'if a {} else { show "x"; }', "slider s = 0 in -1, 1;",
            "for b in a { set b = -b; }", "show fn () { give (:); };",
        )
        for k in range(7):
            self.parted(k, source, "\n".join(forms[:k]), "\n".join(forms[k:]))

    def test_of_more_than_600_bytes_are_told_whole(self):
        source = "do[1" + ",1" * 295 + "];"
        whole = "do [1" + ", 1" * 295 + "];"
        self.assertEqual((len(source), len(whole)), (596, 892))
        self.parted(0, source, "", whole)
        self.parted(1, source, whole, "")
        source = "do a;do[1" + ",1" * 290 + "];do b;"
        whole = "do [1" + ", 1" * 290 + "];"
        self.parted(0, source, "", f"do a;\n{whole}\ndo b;")
        self.parted(1, source, "do a;", f"{whole}\ndo b;")
        self.parted(2, source, f"do a;\n{whole}", "do b;")
        self.parted(3, source, f"do a;\n{whole}\ndo b;", "")

    def test_of_600_and_601_bytes(self):
        for digits in (1, 2):
            source = "do[a" + ",1" * 195 + "];show " + "1" * digits + ";"
            whole = "do [a" + ", 1" * 195 + "];\nshow " + "1" * digits + ";"
            self.assertEqual(len(whole), 599 + digits)
            self.parted(0, source, "", whole)
            self.parted(2, source, whole, "")

    def test_signs_set_apart_by_blanks(self):
        chain = "a" + "+a" * 38
        self.parted(3, f"do {chain};" * 7, "\n".join([f"do {chain.replace('+', ' + ')};"] * 3),
                    "\n".join([f"do {chain.replace('+', ' + ')};"] * 4))


class SetsParted(Split):
    def test_a_set_as_a_statement_by_itself(self):
        self.answers_by_k("let a = 1; set a = 2;", "+-+")
        self.answers_by_k("let a = 1; show a; set a = 2; show a;", "+--++")
        self.answers_by_k("show 1; let a = 1; show 2; set a = 2; show 3; set a = 3; show 4;", "++----++")

    def test_a_set_in_a_block(self):
        for around in (
            "if 1 { @ }", "if 1 {} else { @ }", "while 1 { @ }", "for b in [] { @ }", "for b in a { show b; @ }",
            "if 1 { if 2 { while 3 { for b in [] { if 4 {} else { show 1; @ show 2; } } } } }",
            "if 1 { let b = 1; set b = 2; @ }", "if 1 { @ let a = 3; set a = 4; }", "if 1 { if 2 { let a = 3; } @ }",
            "if 1 { for a in [] { set a = 3; } @ }", "for b in [] { do fn (a) { set a = 3; }; @ }",
        ):
            statement = around.replace("@", "set a = 2;")
            self.answers_by_k(f"let a = 1; {statement}", "+-+")
            self.answers_by_k(f"show 1; let a = 1; show 2; {statement} show 3;", "++--++")

    def test_as_deep_as_blocks_may_be(self):
        self.answers_by_k("let a = 1;" + "if 1 {" * 24 + "set a = 2;" + "}" * 24, "+-+")

    def test_one_of_several_sets(self):
        self.answers_by_k("let a = 1; let b = 1; set b = 2; set a = 2;", "+---+")
        self.answers_by_k("let a = 1; set a = 2; let b = 1; set b = 2;", "+-+-+")
        self.answers_by_k("let a = 1; let b = 1; if 1 { set b = 2; set a = 2; }", "+--+")
        self.answers_by_k("let a = 1; let b = 1; if 1 { set a = 2; set b = 2; } set b = 3;", "+---+")


class SetsNotParted(Split):
    def test_let_and_set_on_the_same_side(self):
        self.parted(2, "let a = 1; set a = 2; show a;", "let a = 1;\nset a = 2;", "show a;")
        self.parted(1, "show 1; let a = 1; set a = 2;", "show 1;", "let a = 1;\nset a = 2;")
        self.parted(1, "show a; let a = 1; if a { set a = 2; }", "show a;", "let a = 1;\nif a { set a = 2; }")
        self.parted(0, "let a = 1; set a = 2;", "", "let a = 1;\nset a = 2;")
        self.parted(2, "let a = 1; set a = 2;", "let a = 1;\nset a = 2;", "")

    def test_a_set_that_is_bound_within_its_own_statement(self):
        for statement in (
            "for a in [] { set a = 2; }", "for a in a { if a { set a = a; } }", "do fn (a) { set a = 2; };",
            "do fn f(b, a) { for c in a { set a = 2; } };", "if 1 { let a = 2; set a = 3; }",
            "if 1 { let a = 2; while a { set a = 3; } }", "do fn () { let a = 2; set a = 3; };",
            "show a + fn () { let a = a; if a { set a = a; } };", "for b in a { let a = 1; set a = b; set b = a; }",
        ):
            self.parted(1, f"let a = 1; {statement}", "let a = 1;", statement)
            self.parted(2, f"let a = 1; show a; {statement}", "let a = 1;\nshow a;", statement)

    def test_a_name_that_is_read_across_but_not_set(self):
        for statement in (
            "show a;", "let b = a;", "if a { show a; }", "for b in a { set b = a; }", "do fn () { give a; };",
            "show (a: 1).a;",
        ):
            self.parted(1, f"let a = 1; {statement}", "let a = 1;", statement)
        self.parted(1, "slider a = 1 in 1, 1; show a;", "slider a = 1 in 1, 1;", "show a;")
        self.parted(1, 'choice a = 0 in "x"; show a;', 'choice a = 0 in "x";', "show a;")
        self.parted(2, "let a = 1; let b = 1; let c = a; set c = a + b;", "let a = 1;\nlet b = 1;", "let c = a;\nset c = a + b;")


class Refusals(Split):
    def test_the_text_comes_first(self):
        for k in (-1, 0, 1, 2, FARTHEST, -FARTHEST):
            for source in ("show a;", "let a = 1; set a = 2;", "show a", "give 1;", "$", ""):
                self.refused(k, padded(source, 601), TOO_LONG)
                self.refused(k, padded(source, 2000), TOO_LONG)
            for source in ("show a", "give 1; $", "let a = 1; set a = 2; { ", "give 007;"):
                self.refused(k, source, NOT_GOOD)
            for source in (
                "let a = 1; let a = 2;", "show fn (a, a) {};", "show (a: 1, a: 2);", "set a = 1;", "give 1;",
                "if 1 { slider a = 1 in 1, 1; }", "slider a = 0 in 1, 1;", 'choice a = 1 in "a";',
                "let a = 1; set a = 2; give a;", "slider a = 1 in 1, 1; set a = 1;", "set a = 1; let a = 2;",
            ):
                self.refused(k, source, NOT_SOUND)
        self.parted(1, padded("show a;", 600), "show a;", "")

    def test_then_k_then_the_sets(self):
        source = "let a = 1; set a = 2; show a;"
        for k in (-1, -2, 4, FARTHEST, -FARTHEST):
            self.refused(k, source, NO_SUCH)
        self.refused(1, source, SET_PARTED)
        self.refused(1, "let a=1;set a=[1" + ",1" * 280 + "];", SET_PARTED)


if __name__ == "__main__":
    unittest.main()
