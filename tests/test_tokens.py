"""Allowed bytes, blanks, comments and tokens, as the calls show them."""

import unittest

from helper import NOT_GOOD, TOO_LONG, as_bytes, faults, is_good, listed, made, padded

from cellnames import names
from cellnames.tokens import cut_tokens

RESERVED = (
    "let set show table plot check slider choice if else while for in do give fn and or not "
    "yes no none len keys text num roll cut with"
).split()


class Length(unittest.TestCase):
    def test_600_bytes_are_taken(self):
        self.assertEqual(made(padded("let a = 1;", 600)), [1, 0, 0, 1, 97])
        self.assertEqual(faults(padded("let a = 1;", 600)), [0])

    def test_601_bytes_and_more_are_too_long(self):
        for size in (601, 602, 1000, 2000):
            self.assertEqual(faults(padded("let a = 1;", size)), TOO_LONG)
            self.assertEqual(made(padded("let a = 1;", size)), TOO_LONG)

    def test_too_long_comes_before_all_else(self):
        for source in ("$", "give 1;", "show x; { ", "\x00"):
            self.assertEqual(faults(padded(source, 601)), TOO_LONG)
            self.assertEqual(made(padded(source, 601)), TOO_LONG)
            self.assertNotEqual(faults(padded(source, 600)), TOO_LONG)
            self.assertNotEqual(made(padded(source, 600)), TOO_LONG)

    def test_the_empty_text_is_good(self):
        self.assertEqual(faults(""), [0])
        self.assertEqual(made(""), [0])

    def test_blanks_and_comments_alone_are_good(self):
        for source in (" ", "\n", " \n \n", "#", "# let", "#\n#\n", " # a # b\n "):
            self.assertEqual(faults(source), [0])
            self.assertEqual(made(source), [0])


class Bytes(unittest.TestCase):
    def test_each_byte_in_a_comment(self):
        for byte in range(256):
            text = as_bytes("show 1; # ") + [byte]
            allowed = byte == 10 or 32 <= byte <= 126
            self.assertEqual(names.faults(text), [0] if allowed else NOT_GOOD, byte)
            self.assertEqual(names.made(text), [0] if allowed else NOT_GOOD, byte)

    def test_each_byte_in_a_quoted_text(self):
        for byte in range(256):
            text = as_bytes('show "') + [byte] + as_bytes('";')
            stands_for_itself = 32 <= byte <= 126 and byte not in (34, 92)
            self.assertEqual(names.faults(text), [0] if stands_for_itself else NOT_GOOD, byte)

    def test_each_byte_between_statements(self):
        for byte in range(256):
            text = as_bytes("show 1;") + [byte] + as_bytes("show 2;")
            self.assertEqual(names.faults(text), [0] if byte in (10, 32, 35) else NOT_GOOD, byte)

    def test_each_byte_by_itself(self):
        for byte in range(256):
            self.assertEqual(names.faults([byte]), [0] if byte in (10, 32, 35) else NOT_GOOD, byte)


class Comments(unittest.TestCase):
    def test_a_comment_ends_with_its_line(self):
        self.assertEqual(made("let a = 1; # let b = 2;\nlet c = 3;"), [2, 0, 0, 1, 97, 0, 1, 1, 99])

    def test_a_comment_ends_with_the_text(self):
        self.assertEqual(made("let a = 1; # let b = 2;"), [1, 0, 0, 1, 97])

    def test_a_comment_may_stand_between_any_two_tokens(self):
        self.assertEqual(made("let # x\na # = 2;\n=# \n1#;\n;"), [1, 0, 0, 1, 97])

    def test_a_comment_parts_two_words(self):
        self.assertFalse(is_good("let a#\nb = 1;"))

    def test_what_stands_in_a_comment_is_no_token(self):
        self.assertTrue(is_good("# \" $ ! 007 " + "a" * 40 + " \\ " + "(" * 30 + "\nshow 1;"))

    def test_the_sign_in_a_quoted_text_is_a_byte_like_others(self):
        self.assertTrue(is_good('show "# a"; let b = "#";'))
        self.assertEqual(made('show "#"; let b = "##";'), [1, 0, 1, 1, 98])
        self.assertFalse(is_good('show # "a";'))
        self.assertTrue(is_good('show # "a";\n1;'))

    def test_a_quote_in_a_comment_begins_no_quoted_text(self):
        self.assertEqual(made('show 1; # "\nlet b = 1; # "'), [1, 0, 1, 1, 98])


class Words(unittest.TestCase):
    def test_16_bytes_are_taken_and_17_are_not(self):
        for word in ("a" * 16, "_" * 16, "Z9_" * 5 + "z"):
            self.assertEqual(made(f"let {word} = 1;"), [1, 0, 0, 16] + as_bytes(word))
            self.assertFalse(is_good(f"let {word}a = 1;"))
            self.assertFalse(is_good(f"let {word}0 = 1;"))
            self.assertFalse(is_good(f"let {word}_ = 1;"))

    def test_a_wrong_word_is_wrong_wherever_it_stands(self):
        long_word = "b" * 17
        for source in ("show {};", "show r.{};", "show ({}: 1);", "show fn ({}) {{}};", "{}"):
            self.assertFalse(is_good(source.format(long_word)))

    def test_what_a_name_begins_with(self):
        for word in ("a", "z", "A", "Z", "_", "_1", "a1", "a_b", "lets", "Let", "LET", "no1", "_in"):
            self.assertEqual(made(f"let {word} = 1;")[3:], [len(word)] + as_bytes(word))
        for word in ("1a", "a-b", "a b", "a.b", "a$", "@", "[", "`", "{", "~"):
            self.assertFalse(is_good(f"let {word} = 1;"), word)

    def test_no_reserved_word_is_a_name(self):
        self.assertEqual(len(RESERVED), 29)
        for word in RESERVED:
            for source in (
                "let {} = 1;", "for {} in [1] {{}}", "slider {} = 1 in 1, 1;",
                'choice {} = 0 in "a";', "show fn {}() {{}};", "show fn ({}) {{}};",
                "show fn (a, {}) {{}};", "show r.{};", "show ({}: 1);", "show (a: 1, {}: 1);",
                "let x = 1; set {} = 2;",
            ):
                self.assertFalse(is_good(source.format(word)), source.format(word))
                self.assertTrue(is_good(source.format(word + "_")))

    def test_reserved_words_but_those_that_say_something_are_no_expression(self):
        for word in RESERVED:
            self.assertEqual(is_good(f"show {word};"), word in ("yes", "no", "none"), word)


class Numbers(unittest.TestCase):
    def test_30_digits_are_taken_and_31_are_not(self):
        self.assertTrue(is_good("show " + "9" * 30 + ";"))
        self.assertFalse(is_good("show " + "9" * 31 + ";"))
        self.assertTrue(is_good("show 1" + "0" * 29 + ";"))
        self.assertFalse(is_good("show 1" + "0" * 30 + ";"))

    def test_a_leading_0(self):
        for number in ("0", "1", "10", "100", "7", "70"):
            self.assertTrue(is_good(f"show {number};"), number)
        for number in ("00", "01", "007", "000", "0" * 30, "0" * 31, "00a"):
            self.assertFalse(is_good(f"show {number};"), number)

    def test_numbers_of_sliders_and_choices_are_held_to_the_same(self):
        self.assertFalse(is_good("slider a = 01 in 0, 2;"))
        self.assertFalse(is_good("slider a = 1 in -00, 2;"))
        self.assertFalse(is_good("slider a = 1 in 0, " + "1" * 31 + ";"))
        self.assertFalse(is_good('choice a = 00 in "a";'))

    def test_a_number_ends_where_a_letter_begins(self):
        self.assertFalse(is_good("show 12ab;"))
        self.assertFalse(is_good("let 12ab = 1;"))
        self.assertTrue(is_good("show 12and 1;"))
        self.assertTrue(is_good("show 0or 0;"))
        self.assertEqual(made("slider a=1in 0,2;"), [1, 1, 0, 1, 97])
        self.assertFalse(is_good("show 12and1;"))
        self.assertFalse(is_good("show 1_;"))

    def test_no_point_in_a_number(self):
        self.assertFalse(is_good("show 1.5;"))
        self.assertTrue(is_good("show 1.x;"))


class QuotedTexts(unittest.TestCase):
    def test_it_may_say_nothing(self):
        self.assertTrue(is_good('show "";'))
        self.assertTrue(is_good('choice a = 0 in "";'))

    def test_each_byte_behind_a_backslash(self):
        for byte in range(256):
            text = as_bytes('show "a\\') + [byte] + as_bytes('b";')
            taken = byte in (92, 34, 110)
            self.assertEqual(names.faults(text), [0] if taken else NOT_GOOD, byte)

    def test_a_backslash_takes_its_byte_along(self):
        self.assertTrue(is_good('show "\\"";'))
        self.assertTrue(is_good('show "\\\\";'))
        self.assertFalse(is_good('show "\\";'))
        self.assertFalse(is_good('show "\\\\"";'))
        self.assertTrue(is_good('show "\\\\\\"";'))
        self.assertTrue(is_good('show "\\nn\\n";'))

    def test_it_may_not_end_with_the_line(self):
        self.assertFalse(is_good('show "a\n";'))
        self.assertFalse(is_good('show "a\\\n";'))
        self.assertFalse(is_good('show "\n'))

    def test_it_may_not_end_with_the_text(self):
        for source in ('show "', 'show "a', 'show "a;', 'show "a\\', 'show "a\\"', 'show "a\\\\', '"', '"\\'):
            self.assertFalse(is_good(source), source)

    def test_signs_and_words_in_it_are_no_tokens(self):
        self.assertEqual(made('show "let b = 1; }{"; let a = "(((";'), [1, 0, 1, 1, 97])
        self.assertTrue(is_good('show "$ ! 007 ' + "a" * 40 + '";'))

    def test_brackets_in_it_are_not_counted(self):
        self.assertTrue(is_good('show "' + "(" * 30 + '";'))
        self.assertFalse(is_good('show "' + ")" * 5 + '" + ' + "(" * 25 + "1" + ")" * 25 + ";"))

    def test_two_of_them_stand_side_by_side_as_two_tokens(self):
        self.assertFalse(is_good('show "a""b";'))
        self.assertTrue(is_good('show "a"++"b";'))


class WhatTokensSay(unittest.TestCase):
    """No call shows it yet but through the tree."""

    def said(self, source):
        return [token.value for token in cut_tokens(as_bytes(source))]

    def test_quoted_texts(self):
        self.assertEqual(self.said('"" "a" "# " "\\\\" "\\"" "\\n" "n\\nn"'),
                         [(), (97,), (35, 32), (92,), (34,), (10,), (110, 10, 110)])

    def test_names_and_numbers(self):
        self.assertEqual(self.said("0 10 " + "9" * 30), [0, 10, 10 ** 30 - 1])
        self.assertEqual(self.said("a _B9"), [(97,), (95, 66, 57)])


class Signs(unittest.TestCase):
    def test_two_byte_signs_are_taken_as_long_as_can_be(self):
        for sign in ("==", "!=", "<=", ">=", "++"):
            self.assertTrue(is_good(f"show a{sign}b;"), sign)
            self.assertTrue(is_good(f"show a {sign}-b;"), sign)

    def test_a_blank_parts_them(self):
        for source in ("a = = b", "a ! = b", "a < = b", "a > = b", "a + + b", "a +#\n+ b"):
            self.assertFalse(is_good(f"show {source};"), source)

    def test_three_in_a_row(self):
        for source in ("a === b", "a !== b", "a <== b", "a >== b", "a +++ b", "a ++++ b", "a => b", "a =< b"):
            self.assertFalse(is_good(f"show {source};"), source)
        self.assertFalse(is_good("let a == 1;"))
        self.assertFalse(is_good("let a=== 1;"))

    def test_the_longer_one_is_taken_where_two_shorter_ones_would_do(self):
        self.assertTrue(is_good("show a - -b;"))
        self.assertTrue(is_good("show a--b;"))
        self.assertFalse(is_good("show a<==b;"))

    def test_one_byte_signs(self):
        for sign in "+-*/%<>":
            self.assertTrue(is_good(f"show a{sign}b;"), sign)
        self.assertTrue(is_good("show a?[b]:(c:d.e);"))

    def test_bytes_where_no_token_begins(self):
        for sign in "!$&'@\\^`|~":
            for source in (f"show a {sign} b;", f"show {sign}a;", f"{sign}", f"show a; {sign}", f"show a{sign}"):
                self.assertFalse(is_good(source), source)

    def test_no_blanks_are_needed_beside_signs(self):
        self.assertEqual(made("let a=fn(b){give-b;};let c=a(1)[2].d;"), listed_made("a", "c"))


def listed_made(*lets):
    """What made answers of outermost lets alone."""
    answer = [len(lets)]
    for number, name in enumerate(lets):
        answer.extend([0, number] + listed(name)[1:])
    return answer


if __name__ == "__main__":
    unittest.main()
