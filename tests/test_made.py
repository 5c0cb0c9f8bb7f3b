"""made: the names of outermost lets, sliders and choices."""

import unittest

from helper import NOT_SOUND, as_bytes, made, told

from cellnames import names


class Made(unittest.TestCase):
    def test_lets_sliders_and_choices_in_the_order_of_the_text(self):
        source = 'choice cc = 1 in "a", "b"; let z = 1; slider b = -3 in -5, 10; let a = 2;'
        expected = [4] + [2, 0] + told("cc") + [0, 1] + told("z") + [1, 2] + told("b") + [0, 3] + told("a")
        self.assertEqual(made(source), expected)

    def test_statements_that_make_nothing_are_counted(self):
        source = "show 1; let a = 1; set a = 2; if 1 { show 1; show 2; } let b = 2; while 1 {} for i in [] {} let c = 3;"
        self.assertEqual(made(source), [3] + [0, 1] + told("a") + [0, 4] + told("b") + [0, 7] + told("c"))

    def test_names_made_within_blocks_and_functions_are_not_told(self):
        for source in (
            "if 1 { let a = 1; } else { let b = 1; }", "while 1 { let a = 1; }", "for a in [] { let b = 1; }",
            "show fn f(a) { let b = 1; give fn () { let c = 1; }; };", "for a in fn () { let b = 1; } {}",
        ):
            self.assertEqual(made(source), [0], source)
            self.assertEqual(made(source + " let a = 1;"), [1, 0, 1, 1, 97], source)

    def test_names_bound_in_a_lets_expression_are_not_told(self):
        source = "let a = fn b(c) { let d = 1; for e in [] {} }; let f = 1;"
        self.assertEqual(made(source), [2] + [0, 0] + told("a") + [0, 1] + told("f"))

    def test_names_read_and_names_of_fields_are_not_told(self):
        self.assertEqual(made("show x; show (y: 1).z; let a = b.c;"), [1, 0, 2, 1, 97])

    def test_the_same_name_read_and_made(self):
        self.assertEqual(made("show x; let x = 1;"), [1, 0, 1, 1, 120])
        self.assertEqual(made("let x = x + 1;"), [1, 0, 0, 1, 120])

    def test_the_documents_example(self):
        self.assertEqual(made("let f = fn (y) { give x + y; };"), [1, 0, 0, 1, 102])

    def test_nothing_made(self):
        for source in ("", "show 1;", "for i in [1] { let i = i; set i = 2; }", "# let a = 1;"):
            self.assertEqual(made(source), [0], source)

    def test_names_are_told_by_all_their_bytes(self):
        for name in ("_", "Zz_09", "a" * 16, "A123456789012345"):
            self.assertEqual(made(f"let {name} = 1;"), [1, 0, 0] + told(name))

    def test_as_many_as_the_text_can_hold(self):
        singles = "abcdefghijklmnopqrstuvwxyzABCDEFGHIJKLMNOPQRSTUVWXYZ_"
        source = "".join(f"let {name}=1;" for name in singles)
        expected = [53]
        for number, name in enumerate(singles):
            expected += [0, number] + told(name)
        self.assertEqual(made(source), expected)

    def test_unsound(self):
        for source in ("let a = 1; give 1;", "let a = 1; let a = 2;", "let a = 1; show fn () { set a = 2; };"):
            self.assertEqual(made(source), NOT_SOUND, source)


class NothingKept(unittest.TestCase):
    def test_calls_do_not_know_of_one_another(self):
        sources = ("let a = 1;", "let a = 1; let a = 2;", "show a; set a = 1;", "", "$", "let b = fn (a) {};", " " * 601)
        alone = [(names.faults(as_bytes(one)), names.made(as_bytes(one))) for one in sources]
        for first in range(len(sources)):
            for second in range(len(sources)):
                for number in (first, second, first):
                    text = as_bytes(sources[number])
                    self.assertEqual((names.faults(text), names.made(text)), alone[number])

    def test_an_answer_that_is_changed_changes_no_other(self):
        text = as_bytes("let a = 1;")
        answer = names.made(text)
        answer[4] = 7
        answer.append(8)
        self.assertEqual(names.made(text), [1, 0, 0, 1, 97])
        self.assertEqual(text, as_bytes("let a = 1;"))


if __name__ == "__main__":
    unittest.main()
