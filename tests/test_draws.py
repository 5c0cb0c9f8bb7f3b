"""draws: whether the word roll stands anywhere in the program."""

import unittest

from helper import NOT_GOOD, NOT_SOUND, TOO_LONG, draws, padded

YES = [1]
NO = [0]

# Each place where an expression may stand, marked by @.
STATEMENTS = (
    "let x = @;", "let x = 1; set x = @;", "show @;", "table @;", "plot @;", "check @;", "do @;", "do fn () { give @; };",
    "if @ {}", "if @ {} else {}", "while @ {}", "for x in @ {}",
)

EXPRESSIONS = (
    "@", "(@)", "((@))", "@ ? a : b", "a ? @ : b", "a ? b : @", "@ or a", "a or @", "a or @ or b", "@ and a", "a and @",
    "not @", "@ == a", "a == @", "@ != a", "a != @", "@ < a", "a < @", "@ <= a", "a <= @", "@ > a", "a > @", "@ >= a",
    "a >= @", "@ ++ a", "a ++ @", "@ + a", "a + @", "@ - a", "a - @", "@ * a", "a * @", "@ / a", "a / @", "@ % a", "a % @",
    "-@", "@()", "@(a)", "a(@)", "a(b, @)", "a(@, b)", "@[a]", "a[@]", "@.a", "a.b(@).c", "[@]", "[@, a]", "[a, @]",
    "[a, [b, @], c]", "(a: @)", "(a: 1, b: @)", "(a: @, b: 1)", "(a: (b: @))", "len(@)", "keys(@)", "text(@)", "num(@)",
    "roll(@)", "cut(@, a, b)", "cut(a, @, b)", "cut(a, b, @)", "with(@, a, b)", "with(a, @, b)", "with(a, b, @)",
    "fn () { show @; }", "fn f(a) { if a {} give @; }", "fn () { give fn () { give @; }; }",
)

BLOCKS = (
    "if 1 { @ }", "if 1 { show 1; @ show 2; }", "if 1 {} else { @ }", "if 1 { show 1; } else { show 2; @ }", "while 1 { @ }",
    "for x in [] { @ }", "do fn () { @ };", "let x = fn f(y) { @ };", "if 1 { while 1 { for x in [] { @ } } }",
    "do fn () { if 1 {} else { do fn () { @ }; } };", "show [1, (x: fn () { @ })];", "show fn () { @ }(1)[2].x;",
    "if fn () { @ } {}", "show 1; @ show 2;", "show 1; @", "@ show 1;",
)

WITHOUT = ("1", "rolls", "rolls(6)", "roll1(6)", "_roll(6)", "roll_(6)", "Roll(6)", "ROLL(6)", "rol(6)", "oll", "a.rolls",
           '"roll(6)"', '"roll"', "(rolls: 1)", "len(6)", "num(6)", "cut(1, 2, 3)", "1 # roll(6)\n", 'a[1] # "roll"\n')


class Draws(unittest.TestCase):
    def both(self, around):
        """The word where the mark stands; and in its place each that only looks like it."""
        self.assertEqual(draws(around.replace("@", "roll(6)")), YES, around)
        self.assertEqual(draws(around.replace("@", "roll ( 6 )")), YES, around)
        for other in WITHOUT:
            source = around.replace("@", other)
            self.assertEqual(draws(source), YES if "roll(" in around else NO, source)


class Places(Draws):
    def test_each_statement(self):
        for statement in STATEMENTS:
            self.both(statement)

    def test_each_expression(self):
        for expression in EXPRESSIONS:
            self.both(f"show {expression};")

    def test_each_expression_in_each_statement(self):
        for statement in STATEMENTS:
            for expression in EXPRESSIONS:
                source = statement.replace("@", expression.replace("@", "roll(6)"))
                self.assertEqual(draws(source), YES, source)
                if "roll" not in expression:
                    self.assertEqual(draws(source.replace("roll", "rolls")), NO, source)

    def test_each_block(self):
        for block in BLOCKS:
            for statement in STATEMENTS:
                self.both(block.replace("@", statement))

    def test_more_than_once(self):
        self.assertEqual(draws("show roll(roll(roll(6)));"), YES)
        self.assertEqual(draws("show roll(1); if roll(2) { let a = roll(3); }"), YES)

    def test_only_in_the_last_of_many_statements(self):
        self.assertEqual(draws("do a;" * 117 + "do roll(a);"), YES)
        self.assertEqual(draws("do a;" * 117 + "do rolls(a);"), NO)

    def test_as_deep_as_can_be(self):
        self.assertEqual(draws("do fn(){" * 18 + "do roll(1);" + "};" * 18), YES)
        self.assertEqual(draws("do fn(){" * 18 + "do lens(1);" + "};" * 18), NO)
        self.assertEqual(draws("show " + "(" * 23 + "roll(1)" + ")" * 23 + ";"), YES)
        self.assertEqual(draws("show roll(a)" + "+b" * 37 + ";"), YES)
        self.assertEqual(draws("show a" + "+b" * 37 + "+roll(c);"), YES)


class NoWord(Draws):
    def test_without_statements(self):
        for source in ("", " \n", "# roll(6)", "# x\n# roll"):
            self.assertEqual(draws(source), NO, source)

    def test_in_a_comment(self):
        self.assertEqual(draws("show 1; # roll(6);"), NO)
        self.assertEqual(draws("show # roll(6)\n1;"), NO)
        self.assertEqual(draws("show # x\nroll(6);"), YES)
        self.assertEqual(draws("show roll#\n(6);"), YES)

    def test_in_a_quoted_text(self):
        for quoted in ('"roll"', '"roll(6)"', r'"\"roll(6)\""', r'"\nroll(6)"', '" roll "', '"# roll(6)"'):
            self.assertEqual(draws(f"show {quoted};"), NO, quoted)
            self.assertEqual(draws(f"choice a = 0 in {quoted};"), NO, quoted)
            self.assertEqual(draws(f"show {quoted} ++ roll(6);"), YES, quoted)

    def test_as_a_part_of_a_longer_name(self):
        for name in ("rolls", "roll1", "_roll", "roll_", "aroll", "rollroll", "Roll", "rolL", "rol"):
            for source in (
                "let @ = 1;", "let @ = 1; set @ = 2;", "show @;", "show @(6);", "for @ in [] { show @; }", "show fn @() {};",
                "show fn (@) { give @; };", "slider @ = 1 in 1, 1;", 'choice @ = 0 in "a";', "show a.@;", "show (@: 1);",
            ):
                self.assertEqual(draws(source.replace("@", name)), NO, (source, name))


class Refusals(Draws):
    def test_each_in_its_order(self):
        for source in ("show roll(6);", "show 1;", "show roll(6)", "give roll(6);", "$", ""):
            for size in (601, 602, 2000):
                self.assertEqual(draws(padded(source, size)), TOO_LONG, (source, size))
        for source in (
            "show roll;", "show roll();", "show roll(1, 2);", "let roll = 1;", "roll(6);", "show roll(6)", "show a.roll;",
            "show roll(6); $", "give roll(6); { ", "show (roll: 1);", "show fn roll() {};", "show roll[6];", "set roll = 1;",
            "show roll(6)" + ".b" * 38 + ";", "show roll(" + "(" * 24 + "1" + ")" * 25 + ";",
        ):
            self.assertEqual(draws(source), NOT_GOOD, source)
        for source in (
            "give roll(6);", "set a = roll(6);", "let a = roll(6); let a = 1;", "show fn (a, a) { give roll(6); };",
            "show (a: 1, a: roll(6));", "if roll(6) { slider a = 1 in 1, 1; }", "show roll(6); slider a = 0 in 1, 1;",
            'show roll(6); choice a = 1 in "a";', "show 1; give 1;", padded("give roll(6);", 600),
        ):
            self.assertEqual(draws(source), NOT_SOUND, source)
        self.assertEqual(draws(padded("show roll(6);", 600)), YES)
        self.assertEqual(draws(padded("show 6;", 600)), NO)


if __name__ == "__main__":
    unittest.main()
