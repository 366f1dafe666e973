"""Points 2, 17 and 19: what sayings say, how wide they are, the rows and the height of feet."""

import itertools
import unittest

from helper import check_own
from trueleaf.widths import foot_high, foot_rows, said, wide_of

FAR = 10 ** 60


def texts(*widths):
    return [("text", "x" * wide) for wide in widths]


class Said(unittest.TestCase):
    def check(self, form, saying, places, expected):
        self.assertEqual(said(form, saying, places), expected)
        self.assertEqual(wide_of(form, saying, places), len(expected))

    def test_a_text(self):
        for text in ("a", "x" * 60, "12", "[", "$1", "~", "!", "0"):
            self.check((5, 5, 1, 5), ("text", text), [], text)
            self.check((5, 5, 1, 5), ("text", text), [(1, 2)], text)

    def test_a_page(self):
        places = [(0, 0), (0, 2), (3, 1), (8, 0), (9, 0)]
        for k, expected in enumerate(("1", "1", "4", "9", "10")):
            self.check((5, 5, 1, 60), ("page", k), places, expected)
        for k, expected in enumerate(("0", "0", "3", "8", "9")):
            self.check((5, 5, 0, 60), ("page", k), places, expected)

    def test_page_numbers_at_powers_of_ten(self):
        for power in range(1, 61):
            ten = 10 ** power
            places = [(0, 0), (1, 0), (2, 4), (ten - 1, 0), (ten, 0)]
            for k, number in enumerate((ten - 1, ten, ten + 1)):
                self.check((5, 5, ten - 1, 60), ("page", k), places, str(number))
            self.check((5, 5, 0, 60), ("page", 3), places, "9" * power)
            self.check((5, 5, 0, 60), ("page", 4), places, "1" + "0" * power)
            self.assertEqual(wide_of((5, 5, 0, 60), ("page", 3), places), power)
            self.assertEqual(wide_of((5, 5, 0, 60), ("page", 4), places), power + 1)

    def test_pages_and_a_first_of_60_figures(self):
        self.check((5, 5, FAR, 60), ("page", 0), [(0, 0)], "1" + "0" * 60)
        self.check((5, 5, FAR, 60), ("page", 0), [(FAR, 0)], "2" + "0" * 60)
        self.check((5, 60, FAR, 60), ("row", 0), [(FAR, 59)], "6" + "0" * 59 + "60")

    def test_rows_of_a_pages_top_and_last_row(self):
        places = [(0, 0), (0, 6), (1, 0), (1, 6), (2, 0), (10, 3)]
        for first in (0, 1, 9, FAR):
            for k, expected in enumerate(("1", "7", "8", "14", "15", "74")):
                self.check((5, 7, first, 60), ("row", k), places, expected)

    def test_rows_of_pages_of_one_row(self):
        for page in (0, 8, 9, 98, 99, 10 ** 20 - 2, 10 ** 20 - 1):
            self.check((5, 1, 4, 60), ("row", 0), [(page, 0)], str(page + 1))

    def test_rows_at_powers_of_ten(self):
        places = [(0, 8), (0, 9), (1, 38), (1, 39), (1, 40)]
        for k, expected in enumerate(("9", "10", "99", "100", "101")):
            self.check((5, 60, 1, 60), ("row", k), places, expected)

    def test_kinds(self):
        for saying in (("text", "a"), ("page", 0), ("row", 0)):
            self.assertIs(type(said((5, 5, 1, 5), saying, [(0, 0)])), str)
            self.assertIs(type(wide_of((5, 5, 1, 5), saying, [(0, 0)])), int)


class Feet(unittest.TestCase):
    def check(self, wide, high, foot, rows, tall, places=(), first=1):
        form = (wide, high, first, 60)
        self.assertEqual(check_own(self, foot_rows, form, foot, list(places)), rows)
        self.assertEqual(check_own(self, foot_high, form, foot, list(places)), tall)

    def test_a_foot_without_sayings(self):
        self.check(10, 5, [], [], 0)
        self.check(1, 1, [], [], 0)

    def test_one_row(self):
        self.check(10, 5, [("text", "abc")], ["abc"], 1)
        self.check(10, 5, [("text", "abc"), ("text", "de")], ["abc de"], 1)

    def test_rows_filled_just_and_by_one_more(self):
        self.check(10, 5, texts(10), ["x" * 10], 1)
        self.check(10, 5, texts(4, 5), ["xxxx xxxxx"], 1)
        self.check(10, 5, texts(5, 5), ["xxxxx", "xxxxx"], 2)
        self.check(10, 5, texts(2, 3, 3), ["xx xxx xxx"], 1)
        self.check(10, 5, texts(2, 3, 4), ["xx xxx", "xxxx"], 2)
        self.check(10, 5, texts(10, 1, 8, 1), ["x" * 10, "x " + "x" * 8, "x"], 3)
        self.check(1, 5, texts(1, 1, 1), ["x", "x", "x"], 3)
        self.check(3, 5, texts(1, 1, 1), ["x x", "x"], 2)

    def test_a_saying_goes_on_in_the_last_row_alone(self):
        self.check(5, 9, texts(1, 5, 1, 3), ["x", "xxxxx", "x xxx"], 3)

    def test_a_saying_wider_than_wide_stands_by_itself(self):
        self.check(5, 9, texts(6), ["xxxxxx"], 9)
        self.check(5, 9, texts(6, 1, 1), ["xxxxxx", "x x"], 9)
        self.check(5, 9, texts(1, 6, 1), ["x", "xxxxxx", "x"], 9)
        self.check(5, 9, texts(1, 1, 6), ["x x", "xxxxxx"], 9)
        self.check(5, 9, texts(6, 60), ["xxxxxx", "x" * 60], 9)
        self.check(5, 1, texts(6), ["xxxxxx"], 1)
        self.check(5, 9, texts(5), ["xxxxx"], 1)

    def test_just_as_many_rows_as_high_and_more(self):
        self.check(5, 3, texts(5, 5), ["xxxxx"] * 2, 2)
        self.check(5, 3, texts(5, 5, 5), ["xxxxx"] * 3, 3)
        self.check(5, 3, texts(5, 5, 5, 5), ["xxxxx"] * 4, 3)
        self.check(5, 1, texts(5, 5), ["xxxxx"] * 2, 1)
        self.check(5, 60, texts(*[5] * 40), ["xxxxx"] * 40, 40)
        self.check(5, 39, texts(*[5] * 40), ["xxxxx"] * 40, 39)

    def test_a_saying_wider_than_wide_and_more_rows_than_high(self):
        self.check(5, 2, texts(5, 5, 6), ["xxxxx", "xxxxx", "xxxxxx"], 2)

    def test_feet_that_point(self):
        foot = [("text", "see"), ("page", 0), ("text", "or"), ("row", 1)]
        self.check(10, 5, foot, ["see 1 or 7"], 1, [(0, 0), (1, 1)])
        self.check(10, 5, foot, ["see 9 or 9"], 1, [(8, 0), (1, 3)])
        self.check(10, 5, foot, ["see 10 or", "9"], 2, [(9, 0), (1, 3)])
        self.check(10, 5, foot, ["see 9 or", "10"], 2, [(8, 0), (1, 4)])
        self.check(4, 5, [("page", 0), ("page", 0)], ["1000", "1000"], 2, [(0, 0)], 1000)
        self.check(4, 5, [("page", 0), ("page", 0)], ["10000", "10000"], 5, [(9000, 0)], 1000)

    def test_a_page_of_60_figures(self):
        foot = [("text", "a"), ("page", 0), ("text", "b")]
        self.check(60, 7, foot, ["a", "9" * 60, "b"], 3, [(0, 0)], FAR - 1)
        self.check(60, 7, foot, ["a", "1" + "0" * 60, "b"], 7, [(1, 0)], FAR - 1)

    def test_kinds(self):
        self.assertIs(type(foot_rows((9, 9, 1, 1), texts(3), [])), list)
        self.assertIs(type(foot_high((9, 9, 1, 1), texts(3), [])), int)

    def test_all_small_feet(self):
        for wide, many in itertools.product(range(1, 7), range(5)):
            for widths in itertools.product(range(1, 6), repeat=many):
                rows = fill(wide, widths)
                form = (wide, 3, 1, 1)
                told = foot_rows(form, texts(*widths), [])
                self.assertEqual([[len(word) for word in row.split(" ")] for row in told], rows, (wide, widths))
                tall = 3 if many and max(widths) > wide else min(len(rows), 3)
                self.assertEqual(foot_high(form, texts(*widths), []), tall, (wide, widths))

    def test_a_wider_saying_makes_no_foot_lower(self):
        for wide in range(1, 7):
            for widths in itertools.product(range(1, 6), repeat=3):
                one = foot_high((wide, 3, 1, 1), texts(*widths), [])
                for k in range(3):
                    more = list(widths)
                    more[k] += 1
                    self.assertGreaterEqual(foot_high((wide, 3, 1, 1), texts(*more), []), one)


def fill(wide, widths):
    """A second way to fill: each row takes as many as stand in it together, one at least."""
    rows = []
    rest = list(widths)
    while rest:
        fitting = [k for k in range(1, len(rest) + 1) if sum(rest[:k]) + k - 1 <= wide]
        many = max(fitting, default=1)
        rows.append(rest[:many])
        rest = rest[many:]
    return rows


class Own(unittest.TestCase):
    def test_what_is_told_is_the_askers_own(self):
        places = [(0, 0), (3, 2)]
        foot = [("text", "a"), ("page", 1), ("row", 0)]
        for wide in (1, 3, 10):
            check_own(self, foot_rows, (wide, 3, 1, 5), foot, places)
            check_own(self, foot_high, (wide, 3, 1, 5), foot, places)
        for saying in foot:
            check_own(self, said, (5, 3, 1, 5), saying, places)
            check_own(self, wide_of, (5, 3, 1, 5), saying, places)


if __name__ == "__main__":
    unittest.main()
