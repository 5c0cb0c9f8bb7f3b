"""All eleven calls side by side: the interface, the document's own examples, and the edges that hold for each of them."""

import inspect
import unittest

import helper
from helper import (
    BOUND_ANEW, NO_NEW_NAME, NO_SUCH, NOT_GOOD, NOT_SOUND, SET_PARTED, TOO_LONG, as_bytes, listed, padded, told,
)

from cellnames import names

INTERFACE = {
    "faults": ["text"], "made": ["text"], "reads": ["text"], "bindings": ["text"], "uses": ["text"],
    "captured": ["k", "text"], "rename": ["text", "old", "new"], "local": ["k", "text", "new"], "alike": ["a", "b"],
    "split": ["k", "text"], "draws": ["text"],
}

# Where the text stands among what is handed over, and what stands beside it.
TEXT = object()
BESIDE = {
    "faults": [[TEXT]], "made": [[TEXT]], "reads": [[TEXT]], "bindings": [[TEXT]], "uses": [[TEXT]], "draws": [[TEXT]],
    "captured": [[0, TEXT], [-1, TEXT], [10 ** 18, TEXT]],
    "rename": [[TEXT, "a", "b"], [TEXT, "a", "a"], [TEXT, "", "let"], [TEXT, "x" * 100, "\xff" * 100]],
    "local": [[0, TEXT, "b"], [-1, TEXT, "b"], [0, TEXT, ""], [-10 ** 18, TEXT, "\x00" * 100]],
    "alike": [[TEXT, TEXT], [TEXT, ""], ["", TEXT], [TEXT, "show a;"], ["show fn (a) { give a; };", TEXT]],
    "split": [[0, TEXT], [-1, TEXT], [1, TEXT], [-10 ** 18, TEXT]],
}


def asked(source):
    """Each call's answers for the text, beside all that may be handed over with it."""
    for name, ways in BESIDE.items():
        for way in ways:
            handed = [source if one is TEXT else one for one in way]
            yield name, handed, helper.answer(getattr(names, name), *handed)


class Calls(unittest.TestCase):
    def refused(self, source, refusal, of_faults=None):
        for name, handed, answer in asked(source):
            expected = of_faults if name == "faults" and of_faults is not None else refusal
            self.assertEqual(answer, expected, (name, handed))

    def sound(self, source):
        """No call looks at the text and refuses it for what it is."""
        for name, handed, answer in asked(source):
            self.assertNotIn(answer, (TOO_LONG, NOT_GOOD, NOT_SOUND), (name, handed))
        self.assertEqual(helper.faults(source), [0], source)
        self.assertEqual(helper.alike(source, source), [1], source)


class Interface(Calls):
    def test_names_and_arguments(self):
        for name, arguments in INTERFACE.items():
            signature = inspect.signature(getattr(names, name))
            self.assertEqual(list(signature.parameters), arguments, name)
            for parameter in signature.parameters.values():
                self.assertIs(parameter.default, inspect.Parameter.empty, name)
        self.assertEqual(sorted(BESIDE), sorted(INTERFACE))


FUNCTION = "let f = fn (y) { give x + y; };"
LOOP = "for i in [1] { let i = i; set i = 2; }"
FAULTY = "let n = 0; let f = fn () { set n = 1; };"
BRACKETED = "if(a or (b or c)){show((1+2)+3);}# x"
FORM = "if a or (b or c) { show 1 + 2 + 3; }"

EXAMPLES = (
    ("faults", [FUNCTION], [0]),
    ("made", [FUNCTION], [1, 0, 0] + told("f")),
    ("reads", [FUNCTION], listed("x")),
    ("bindings", [FUNCTION], [2, 0, 0, 1, 0] + told("f") + [5, 1, 0, 1] + told("y")),
    ("uses", [FUNCTION], [2, -1, 0, 1] + told("x") + [1, 0, 1] + told("y")),
    ("captured", [0, FUNCTION], listed("x")),
    ("captured", [1, FUNCTION], NO_SUCH),
    ("rename", [FUNCTION, "x", "y"], BOUND_ANEW),
    ("rename", [FUNCTION, "x", "z"], told("let f = fn (y) { give z + y; };")),
    ("rename", [FUNCTION, "y", "z"], NO_SUCH),
    ("rename", [FUNCTION, "x", "x"], NO_NEW_NAME),
    ("rename", [FUNCTION, "x", "f"], NO_NEW_NAME),
    ("local", [1, FUNCTION, "x"], BOUND_ANEW),
    ("local", [1, FUNCTION, "z"], told("let f = fn (z) { give x + z; };")),
    ("local", [1, FUNCTION, "y"], told(FUNCTION)),
    ("local", [0, FUNCTION, "z"], NO_SUCH),
    ("alike", [FUNCTION, "let f = fn (z) { give x + z; };"], [1]),
    ("alike", [FUNCTION, "let f = fn (y) { give z + y; };"], [0]),
    ("split", [0, FUNCTION], [0] + told(FUNCTION)),
    ("split", [1, FUNCTION], told(FUNCTION) + [0]),
    ("draws", [FUNCTION], [0]),
    ("faults", [LOOP], [0]),
    ("made", [LOOP], [0]),
    ("reads", [LOOP], [0]),
    ("bindings", [LOOP], [2, 3, 0, 0, 1] + told("i") + [0, 0, 0, 1] + told("i")),
    ("uses", [LOOP], [2, 0, 0, 0] + told("i") + [1, 1, 0] + told("i")),
    ("captured", [0, LOOP], NO_SUCH),
    ("rename", [LOOP, "i", "j"], NO_SUCH),
    ("local", [0, LOOP, "j"], told("for j in [1] { let i = j; set i = 2; }")),
    ("local", [1, LOOP, "j"], told("for i in [1] { let j = i; set j = 2; }")),
    ("alike", [LOOP, "for a in [1] { let b = a; set b = 2; }"], [1]),
    ("split", [1, LOOP], told(LOOP) + [0]),
    ("draws", [LOOP], [0]),
    ("faults", [FAULTY], [1, 1, 4]),
    ("faults", [BRACKETED], [0]),
    ("reads", [BRACKETED], listed("a", "b", "c")),
    ("rename", [BRACKETED, "c", "d"], told(FORM.replace("c)", "d)"))),
    ("alike", [BRACKETED, FORM], [1]),
    ("split", [0, BRACKETED], [0] + told(FORM)),
    ("made", ["show x; let x = 1;"], [1, 0, 1] + told("x")),
    ("reads", ["show x; let x = 1;"], listed("x")),
    ("uses", ["let x = x + 1;"], [1, -1, 0, 0] + told("x")),
    ("alike", ["show fn (a) { give a; };", "show fn (b) { give b; };"], [1]),
    ("alike", ["let a = 1;", "let b = 1;"], [0]),
    ("alike", ["show a - b + c;", "show (a - b) + c;"], [1]),
    ("alike", ["show a or b or c;", "show (a or b) or c;"], [1]),
    ("alike", ["show f(x)[1].y;", "show ((f(x))[1]).y;"], [1]),
    ("alike", ["show 1 - 2;", "show 1 + -2;"], [0]),
    ("alike", ["if a {}", "if a {} else {}"], [0]),
    ("alike", ["show (a: 1, b: 2);", "show (b: 2, a: 1);"], [0]),
    ("alike", ["slider x = -0 in 0, 1;", "slider x = 0 in 0, 1;"], [1]),
    ("split", [0, "slider x=3 in- 5,10;"], [0] + told("slider x = 3 in -5, 10;")),
    ("split", [1, 'choice x=0 in"a","b";'], told('choice x = 0 in "a", "b";') + [0]),
    ("split", [1, "let n = 0; set n = 1;"], SET_PARTED),
    ("faults", ["show 12ab;"], NOT_GOOD),
    ("faults", ["show 12or ab;"], [0]),
    ("faults", ["show 007;"], NOT_GOOD),
)


class Examples(Calls):
    def test_the_documents_own(self):
        for name, handed, expected in EXAMPLES:
            self.assertEqual(helper.answer(getattr(names, name), *handed), expected, (name, handed))
        self.assertEqual({name for name, handed, expected in EXAMPLES}, set(INTERFACE))

    def test_those_that_are_refused(self):
        self.refused("show x; { ", NOT_GOOD)
        self.refused("show 007;", NOT_GOOD)
        self.refused("show 12ab;", NOT_GOOD)
        self.refused(FAULTY, NOT_SOUND, [1, 1, 4])


# A text with each fault, and the pair that faults answers.
FAULTS = (
    ("let a = 1; let a = 2;", [1, 1, 1]), ("show fn (a, a) {};", [1, 0, 2]), ("show (a: 1, a: 2);", [1, 0, 3]),
    ("set a = 1;", [1, 0, 4]), ("give 1;", [1, 0, 5]), ("if 1 { slider a = 1 in 1, 1; }", [1, 0, 6]),
    ("slider a = 0 in 1, 1;", [1, 0, 7]), ('choice a = 1 in "a";', [1, 0, 8]),
)


class Refusals(Calls):
    def test_each_fault(self):
        for source, pair in FAULTS:
            self.refused(source, NOT_SOUND, pair)
            self.refused(padded(source, 600), NOT_SOUND, pair)

    def test_not_good_comes_before_not_sound(self):
        for source, pair in FAULTS:
            for tail in (" $", " {", " show", " 007", " \x00", " show " + "[" * 25 + "]" * 25 + ";", " show a" + ".b" * 39 + ";"):
                self.refused(source + tail, NOT_GOOD)
                self.refused(padded(source + tail, 600), NOT_GOOD)

    def test_too_long_comes_before_all_else(self):
        for source in ["show a;", "", "$", "show", "\x00", "give 1; $"] + [source for source, pair in FAULTS]:
            self.refused(padded(source, 601), TOO_LONG)
            self.refused(padded(source, 2000), TOO_LONG)

    def test_two_texts(self):
        for first, second, expected in (
            (padded("", 601), "$", TOO_LONG), (padded("", 601), "give 1;", TOO_LONG), ("$", "give 1;", NOT_GOOD),
            (padded("$", 2000), "give 1;", TOO_LONG), ("give 1; $", "give 1;", NOT_GOOD),
        ):
            self.assertEqual(helper.alike(first, second), expected)
            self.assertEqual(helper.alike(second, first), expected)


class Lengths(Calls):
    def test_600_bytes_are_taken(self):
        for source in ("", "let a = 1;", "show fn (a) { give a; };", "# x"):
            for size in (599, 600):
                self.sound(padded(source, size))
                self.sound(source + "#" + "x" * (size - len(source) - 1))
                self.sound(" " * (size - len(source)) + source)
        self.sound("do a;" * 120)
        self.sound('show "' + "x" * 592 + '";')

    def test_601_bytes_and_more_are_not(self):
        for source in ("", "let a = 1;", "show fn (a) { give a; };", "# x"):
            for size in (601, 602, 1999, 2000):
                self.refused(padded(source, size), TOO_LONG)
                self.refused(" " * (size - len(source)) + source, TOO_LONG)
        self.refused("do a;" * 120 + "\n", TOO_LONG)
        self.refused("do a;" * 400, TOO_LONG)
        self.refused('show "' + "x" * 593 + '";', TOO_LONG)
        self.refused("(" * 2000, TOO_LONG)
        self.refused("\xff" * 2000, TOO_LONG)


class Brackets(Calls):
    def test_24_deep_are_taken_and_25_are_not(self):
        for left, inner, right in (
            ("(", "a", ")"), ("[", "", "]"), ("f(", "", ")"), ("a[", "1", "]"), ("(a:", "1", ")"), ("len(", "1", ")"),
            ("-(", "1", ")"), ("not (", "1", ")"), ("roll(", "1", ")"),
        ):
            self.sound(f"show {left * 24}{inner}{right * 24};")
            self.refused(f"show {left * 25}{inner}{right * 25};", NOT_GOOD)

    def test_of_blocks(self):
        for head in ("if 1 ", "while 1 ", "for a in [] ", "if 1 {} else "):
            self.sound((head + "{") * 24 + "}" * 24)
            self.refused((head + "{") * 25 + "}" * 25, NOT_GOOD)

    def test_of_all_kinds_in_turn(self):
        self.sound("if 1 {" * 12 + "show " + "([" * 6 + "1" + "])" * 6 + ";" + "}" * 12)
        self.refused("if 1 {" * 12 + "show " + "([" * 6 + "(1)" + "])" * 6 + ";" + "}" * 12, NOT_GOOD)

    def test_only_opening_ones(self):
        for bracket in "([{":
            self.refused(bracket * 600, NOT_GOOD)
            self.refused("show " + bracket * 595, NOT_GOOD)


SIGNS = ("+", "-", "*", "/", "%", "++", " or ", " and ")


class Depth(Calls):
    def test_40_is_taken_and_41_is_not(self):
        for link in [sign + "a" for sign in SIGNS] + [".a", "()", "(a)", "[a]", "(a, a)"]:
            self.sound("show a" + link * 38 + ";")
            self.refused("show a" + link * 39 + ";", NOT_GOOD)
            self.sound("if 1 { let b = fn (a) { show a" + link * 35 + "; }; }")
            self.refused("if 1 { let b = fn (a) { show a" + link * 36 + "; }; }", NOT_GOOD)

    def test_of_functions(self):
        for inner in ("do 1;", "do -1;", "do -[1];", "do -[a];", "let b = 1;", "for b in [] { show b; }"):
            self.sound("do fn(a){" * 18 + inner + "};" * 18)
        for inner in ("do -[-1];", "do [[[1]]];", "for b in [] { show -[b]; }"):
            self.refused("do fn(a){" * 18 + inner + "};" * 18, NOT_GOOD)

    def test_chains_as_long_as_600_bytes_allow(self):
        for link in [sign + "a" for sign in SIGNS] + [".a", "()", "(a)", "[a]", "==a", "<a", "a", " not a", "-", "?a:a", ",a"]:
            links = (600 - len("show a;")) // len(link)
            self.refused("show a" + link * links + ";", NOT_GOOD)
        self.refused("show " + "-" * 593 + "a;", NOT_GOOD)
        self.refused("show " + "not " * 148 + "a;", NOT_GOOD)
        self.refused("show a" + "+a*a" * 148 + ";", NOT_GOOD)
        self.refused("show a" + "*a+a" * 148 + ";", NOT_GOOD)

    def test_long_chains_that_are_good(self):
        for link in ("+a", "*a", ".a", "()"):
            chain = "do a" + link * 38 + ";"
            source = chain * (600 // len(chain))
            self.sound(source)
        self.sound("do[a" + ",a" * 296 + "];")
        self.sound("do f(a" + ",a" * 295 + ");")


class Kept(Calls):
    sources = (FUNCTION, LOOP, FAULTY, BRACKETED, "", "$", padded("show a;", 601), "let a = roll(6); set a = 1; show a;",
               'slider a = 0 in -1, 1; choice b = 0 in "x"; for c in a { do fn f(d) { give [a, b, c, d, f]; }; }')

    def test_nothing_from_one_call_to_the_next(self):
        first = [list(asked(source)) for source in self.sources]
        again = [list(asked(source)) for source in reversed(self.sources)]
        self.assertEqual(first, list(reversed(again)))

    def test_what_is_handed_in_is_the_same_afterwards(self):
        for source in self.sources:
            for name, ways in BESIDE.items():
                text = helper.Untouchable(as_bytes(source))
                for way in ways:
                    handed = [text if one is TEXT else one for one in way]
                    handed = [helper.Untouchable(as_bytes(one)) if isinstance(one, str) else one for one in handed]
                    copies = [list(one) if isinstance(one, list) else one for one in handed]
                    answer = getattr(names, name)(*handed)
                    self.assertEqual(handed, copies, (name, source))
                    self.assertEqual(getattr(names, name)(*copies), answer, (name, source))
                    self.assertFalse(any(answer is one for one in handed))


if __name__ == "__main__":
    unittest.main()
