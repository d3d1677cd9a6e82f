"""Promise 8: names, kept words, numbers; and of promise 2 what goes for them."""

import unittest

from pactway.words import is_name, kept_words, number_of

KEPT = "acts any be by calm done else end in let may must not part parties rest sore to whole".split(" ")
LETTERS = "abcdefghijklmnopqrstuvwxyz"
FIGURES = "0123456789"
PRINTED = [chr(code) for code in range(32, 127)]
# Signs that Python's own tests for letters, small letters, blanks and figures may let by.
STRANGE = ["\n", "\t", "\r", "\x00", "\x7f", "\xa0", "\xe9", "\xdf", "\xaa", "\u0430", "\u0131", "\uff41",
           "\xb2", "\u0663", "\u0967", "\uff11", "\u2460", "\u0301", "\u200b"]


class KeptWords(unittest.TestCase):
    def test_the_nineteen_words_sorted(self):
        self.assertEqual(kept_words(), KEPT)
        self.assertEqual(kept_words(), sorted(kept_words()))
        self.assertEqual(len(kept_words()), 19)

    def test_a_list_of_texts(self):
        self.assertIs(type(kept_words()), list)
        for word in kept_words():
            self.assertIs(type(word), str)

    def test_the_list_is_the_askers_own(self):
        told = kept_words()
        other = kept_words()
        self.assertIsNot(told, other)
        told.reverse()
        told.append("ann")
        told[0] = "bob"
        self.assertEqual(other, KEPT)
        self.assertEqual(kept_words(), KEPT)

    def test_names_do_not_hang_on_a_list_that_was_told(self):
        told = kept_words()
        told.append("ann")
        told.remove("rest")
        self.assertIs(is_name("ann"), True)
        self.assertIs(is_name("rest"), False)
        told.clear()
        self.assertIs(is_name("whole"), False)


class Names(unittest.TestCase):
    def test_ordinary_names(self):
        for word in ["ann", "bob", "pay", "send", "sale", "late", "over", "c", "cure", "buyer"]:
            with self.subTest(word=word):
                self.assertIs(is_name(word), True)

    def test_each_small_letter(self):
        for letter in LETTERS:
            with self.subTest(letter=letter):
                self.assertIs(is_name(letter), True)
                self.assertIs(is_name(letter * 8), True)
                self.assertIs(is_name(letter * 9), False)

    def test_lengths(self):
        for many in range(40):
            with self.subTest(many=many):
                self.assertIs(is_name("x" * many), 1 <= many <= 8)
        self.assertIs(is_name(""), False)
        self.assertIs(is_name("abcdefgh"), True)
        self.assertIs(is_name("abcdefghi"), False)
        self.assertIs(is_name("a" * 100000), False)

    def test_no_kept_word_is_a_name(self):
        for word in KEPT:
            with self.subTest(word=word):
                self.assertIs(is_name(word), False)

    def test_words_near_to_kept_ones_are_names(self):
        for word in KEPT:
            pieces = [word[:end] for end in range(1, len(word))] + [word[start:] for start in range(1, len(word))]
            for near in pieces + [word + "s", "x" + word, word[::-1]]:
                if near not in KEPT:
                    with self.subTest(near=near):
                        self.assertIs(is_name(near), True)

    def test_words_that_are_not_among_the_nineteen_are_names(self):
        for word in ["power", "ban", "or", "and", "strike", "drop", "add", "bind", "sign", "if", "none", "all"]:
            with self.subTest(word=word):
                self.assertIs(is_name(word), True)

    def test_kept_words_in_other_letters_are_no_names(self):
        for word in KEPT:
            self.assertIs(is_name(word.upper()), False)
            self.assertIs(is_name(word.capitalize()), False)

    def test_each_printed_sign(self):
        for sign in PRINTED:
            with self.subTest(sign=sign):
                self.assertIs(is_name(sign), sign in LETTERS)

    def test_each_sign_at_each_place(self):
        for sign in PRINTED + STRANGE:
            for word in ["x", "xy", "wxyz", "stuvxyz"]:
                for place in range(len(word) + 1):
                    with self.subTest(sign=sign, word=word, place=place):
                        mixed = word[:place] + sign + word[place:]
                        self.assertIs(is_name(mixed), sign in LETTERS)

    def test_blanks_and_other_texts(self):
        for word in [" ", "  ", " ann", "ann ", "ann bob", "ann\n", "\nann", "Ann", "ANN", "an1", "1an", "a-b", "a_b",
                     "1", "07", "rest ", " rest", "\xe9t\xe9"]:
            with self.subTest(word=word):
                self.assertIs(is_name(word), False)


class Numbers(unittest.TestCase):
    def assert_number(self, word, number):
        told = number_of(word)
        self.assertIs(type(told), int)
        self.assertEqual(told, number)

    def test_ordinary_numbers(self):
        for number in list(range(1, 1200)) + [9999, 10000, 123456789, 1000000007]:
            with self.subTest(number=number):
                self.assert_number(str(number), number)

    def test_all_lengths(self):
        for many in range(60):
            kept = 1 <= many <= 20
            for figure in range(1, 10):
                with self.subTest(many=many, figure=figure):
                    word = str(figure) * many
                    self.assert_number(word, int(word) if kept else 0)

    def test_twenty_and_twenty_one_figures(self):
        self.assert_number("9" * 20, 10 ** 20 - 1)
        self.assert_number("1" + "0" * 19, 10 ** 19)
        self.assert_number("12345678901234567890", 12345678901234567890)
        self.assert_number("1" + "0" * 20, 0)
        self.assert_number("9" * 21, 0)

    def test_very_long_words(self):
        self.assert_number("1" * 5000, 0)
        self.assert_number("7" * 100000, 0)

    def test_a_first_figure_0(self):
        for word in ["0", "00", "07", "007", "01", "010", "0" * 20, "0" * 19 + "1", "0" * 20 + "1", "0" * 21]:
            with self.subTest(word=word):
                self.assert_number(word, 0)

    def test_the_word_without_signs(self):
        self.assert_number("", 0)

    def test_words_that_write_no_number(self):
        for word in ["-1", "+1", "-0", "--1", "1-", "1.0", "1.", ".5", "1,000", "1_000", "1e3", "0x1f", "0b1", "1/2",
                     " 1", "1 ", "1 2", "1\n", "\n1", "\t1", "one", "a", "rest", "a1", "1a", "True", "None", "~"]:
            with self.subTest(word=word):
                self.assert_number(word, 0)

    def test_each_printed_sign(self):
        for sign in PRINTED:
            with self.subTest(sign=sign):
                self.assert_number(sign, FIGURES.index(sign) if sign in FIGURES else 0)

    def test_other_signs_at_each_place(self):
        for sign in PRINTED + STRANGE:
            if sign in FIGURES:
                continue
            for word in ["1", "12", "9876", "1234567890123456789"]:
                for place in range(len(word) + 1):
                    with self.subTest(sign=sign, word=word, place=place):
                        self.assert_number(word[:place] + sign + word[place:], 0)

    def test_figures_at_each_place(self):
        for figure in FIGURES:
            for word in ["1", "12", "1234567890123456789"]:
                for place in range(1, len(word) + 1):
                    mixed = word[:place] + figure + word[place:]
                    self.assert_number(mixed, int(mixed))


if __name__ == "__main__":
    unittest.main()
