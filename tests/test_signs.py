"""Points 4 and 5: words, names, figures, and how a word is read."""

import itertools
import unittest

from trueleaf.signs import figures_of, is_name, kind_of, words_in

SIGNS = [chr(code) for code in range(ord(" "), ord("~") + 1) if chr(code) != "%"]
SMALL = "abcdefghijklmnopqrstuvwxyz"
FIGURES = "0123456789"
KINDS = (("#", "mark"), ("@", "number"), ("&", "page"), ("^", "row"), ("~", "foot"))
NAMES = ("a", "z", "a0", "z9", "part2", "abcdefghijkl", "a12345678901")
NO_NAMES = ("1a", "A", "aB", "a-", "abcdefghijklm", "#a", "!a", "!", "#", "a!", "~", ".use")


class Words(unittest.TestCase):
    def test_ordinary_rows(self):
        self.assertEqual(words_in("one"), ["one"])
        self.assertEqual(words_in("one two three"), ["one", "two", "three"])
        self.assertEqual(words_in("b a b"), ["b", "a", "b"])

    def test_blanks_ahead_behind_and_in_runs(self):
        self.assertEqual(words_in("  one"), ["one"])
        self.assertEqual(words_in("one   "), ["one"])
        self.assertEqual(words_in("one    two"), ["one", "two"])
        self.assertEqual(words_in("   one  two     3  "), ["one", "two", "3"])

    def test_rows_without_words(self):
        for many in (0, 1, 2, 400):
            with self.subTest(many):
                self.assertEqual(words_in(" " * many), [])

    def test_rows_of_400_signs(self):
        self.assertEqual(words_in("x" * 400), ["x" * 400])
        self.assertEqual(words_in("x " * 200), ["x"] * 200)
        self.assertEqual(words_in(" " * 399 + "x"), ["x"])
        self.assertEqual(words_in("x" + " " * 399), ["x"])
        self.assertEqual(words_in("x" * 199 + "  " + "y" * 199), ["x" * 199, "y" * 199])

    def test_every_sign_but_the_blank_stands_in_words(self):
        every = "".join(sign for sign in SIGNS if sign != " ")
        self.assertEqual(words_in(every), [every])
        for sign in every:
            with self.subTest(sign):
                self.assertEqual(words_in(f"a{sign}b {sign}"), [f"a{sign}b", sign])

    def test_all_short_rows_sign_by_sign(self):
        for many in range(8):
            for signs in itertools.product(" a.", repeat=many):
                row = "".join(signs)
                with self.subTest(row=row):
                    self.assertEqual(words_in(row), stretches(row))

    def test_the_list_is_the_askers_own(self):
        first = words_in("one two")
        first.append("three")
        first[0] = "none"
        self.assertEqual(words_in("one two"), ["one", "two"])


def stretches(row):
    found = []
    inside = False
    for sign in row:
        if sign == " ":
            inside = False
        elif inside:
            found[-1] += sign
        else:
            found.append(sign)
            inside = True
    return found


class Names(unittest.TestCase):
    def test_names(self):
        for name in NAMES:
            with self.subTest(name):
                self.assertIs(is_name(name), True)

    def test_lengths(self):
        for many in range(0, 30):
            with self.subTest(many):
                self.assertIs(is_name("a" * many), 1 <= many <= 12)
                self.assertIs(is_name("a" + "7" * many), many <= 11)

    def test_no_names(self):
        for text in NO_NAMES + ("", " ", "a b", " a", "a ", "a\n", "\na", "0", "1", "12"):
            with self.subTest(text):
                self.assertIs(is_name(text), False)

    def test_letters_and_figures_of_other_scripts(self):
        for text in ("\u00e9", "a\u00e9", "a\u00b2", "\u03b1", "a\u0663", "\u00aa"):
            with self.subTest(text):
                self.assertIs(is_name(text), False)

    def test_each_sign_alone(self):
        for sign in SIGNS:
            with self.subTest(sign):
                self.assertIs(is_name(sign), sign in SMALL)

    def test_each_sign_at_each_place(self):
        for long in (1, 2, 5, 12):
            for at in range(long):
                for sign in SIGNS:
                    text = "k" * at + sign + "k" * (long - at - 1)
                    good = sign in SMALL or (sign in FIGURES and at > 0)
                    with self.subTest(text):
                        self.assertIs(is_name(text), good)


class Figures(unittest.TestCase):
    def test_small_numbers(self):
        self.assertEqual(figures_of(0), "0")
        self.assertEqual(figures_of(7), "7")
        self.assertEqual(figures_of(10), "10")
        self.assertEqual(figures_of(405), "405")

    def test_powers_of_ten_and_the_numbers_around(self):
        for power in range(1, 100):
            with self.subTest(power):
                self.assertEqual(figures_of(10 ** power - 1), "9" * power)
                self.assertEqual(figures_of(10 ** power), "1" + "0" * power)
                self.assertEqual(figures_of(10 ** power + 1), "1" + "0" * (power - 1) + "1")

    def test_numbers_of_100_figures(self):
        self.assertEqual(figures_of(10 ** 99), "1" + "0" * 99)
        self.assertEqual(figures_of(10 ** 100 - 1), "9" * 100)
        number = 0
        for figure in FIGURES[1:] * 11 + "5":
            number = number * 10 + int(figure)
        self.assertEqual(figures_of(number), "123456789" * 11 + "5")
        self.assertEqual(len(figures_of(number)), 100)


class Kinds(unittest.TestCase):
    def test_each_sign_ahead_of_a_name(self):
        for sign, kind in KINDS:
            for name in NAMES:
                with self.subTest(sign + name):
                    self.assertEqual(kind_of(sign + name), (kind, name))

    def test_each_sign_ahead_of_what_is_no_name(self):
        for sign, kind in KINDS:
            for rest in NO_NAMES:
                with self.subTest(sign + rest):
                    self.assertEqual(kind_of(sign + rest), ("plain", sign + rest))

    def test_each_sign_alone(self):
        for sign in "#@&^~!":
            with self.subTest(sign):
                self.assertEqual(kind_of(sign), ("plain", sign))

    def test_the_shout_is_left_out_ahead_of_anything(self):
        for rest in NAMES + NO_NAMES + ("#name", "@x", "!!", "!#a"):
            with self.subTest(rest):
                self.assertEqual(kind_of("!" + rest), ("plain", rest))

    def test_only_one_shout_is_left_out(self):
        self.assertEqual(kind_of("!!"), ("plain", "!"))
        self.assertEqual(kind_of("!!#a"), ("plain", "!#a"))

    def test_words_with_none_of_them_ahead(self):
        for word in ("a", "word", "A", "1", "a#b", "a!", "x@", ".use", "[call", "$1", "|", "]", "=", "-", "*"):
            with self.subTest(word):
                self.assertEqual(kind_of(word), ("plain", word))

    def test_every_first_sign(self):
        told = dict(KINDS)
        for sign in SIGNS:
            if sign not in " !":
                with self.subTest(sign):
                    expected = (told[sign], "name") if sign in told else ("plain", sign + "name")
                    self.assertEqual(kind_of(sign + "name"), expected)

    def test_the_pair_is_a_tuple(self):
        for word in ("#a", "@a", "!a", "a"):
            with self.subTest(word):
                self.assertIs(type(kind_of(word)), tuple)


if __name__ == "__main__":
    unittest.main()
