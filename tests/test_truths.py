"""Points 2, 20, 21 and 22: true layings, the first fault, the earlier one of two layings."""

import random
import unittest

from helper import all_layings, check_own, plain, some_book, tall, word
from trueleaf.truths import earlier_of, first_fault

FAR = 10 ** 60
KINDS = ("page", "lead", "wide", "high", "kept")


class Checked(unittest.TestCase):
    def check(self, form, words, places, expected):
        told = check_own(self, first_fault, (form, words), places)
        self.assertEqual(told, expected)
        if expected is not None:
            self.assertIs(type(told), tuple)


class EachKind(Checked):
    def test_a_book_without_words(self):
        self.check((5, 5, 1, 1), [], [], None)

    def test_page(self):
        words = plain("x", "y")
        self.check((5, 5, 1, 3), words, [(0, 0), (2, 4)], None)
        self.check((5, 5, 1, 3), words, [(0, 0), (3, 0)], ("page", 1))
        self.check((5, 5, 1, 3), words, [(3, 0), (3, 1)], ("page", 0))
        self.check((5, 5, 1, 1), words, [(0, 0), (1, 0)], ("page", 1))
        self.check((5, 5, 1, 60), words, [(59, 4), (60, 0)], ("page", 1))
        self.check((5, 5, 1, 60), words, [(0, 0), (FAR, 0)], ("page", 1))

    def test_words_that_stand_earlier_than_the_one_ahead(self):
        self.check((5, 5, 1, 3), plain("x", "y"), [(0, 1), (0, 0)], ("lead", 1))
        self.check((5, 5, 1, 3), plain("x", "y"), [(1, 0), (0, 4)], ("lead", 1))
        self.check((5, 5, 1, 3), plain("x", "y", "z"), [(0, 0), (1, 0), (0, 4)], ("lead", 2))

    def test_each_lead(self):
        form = (5, 4, 1, 9)
        for lead, let, not_let in (
                (0, [(1, 1), (1, 2), (2, 0)], [(1, 0), (0, 3)]),
                (1, [(1, 2), (1, 3), (5, 0)], [(1, 1), (1, 0)]),
                (2, [(1, 3), (2, 0), (2, 1)], [(1, 2), (1, 1)]),
                (3, [(2, 0), (2, 3), (3, 0)], [(1, 1), (1, 3), (0, 0)]),
                (4, [(2, 0), (2, 3), (4, 1)], [(1, 1), (1, 3), (3, 0), (3, 2)])):
            words = [word(), word(lead)]
            for place in let:
                self.check(form, words, [(1, 1), place], None)
            for place in not_let:
                self.check(form, words, [(1, 1), place], ("lead", 1))

    def test_leads_behind_a_pages_last_rows(self):
        form = (5, 4, 0, 9)
        self.check(form, [word(), word(1)], [(1, 3), (2, 0)], None)
        self.check(form, [word(), word(2)], [(1, 2), (2, 0)], None)
        self.check(form, [word(), word(2)], [(1, 2), (1, 3)], ("lead", 1))
        self.check(form, [word(), word(4)], [(0, 3), (1, 0)], None)
        self.check(form, [word(), word(4)], [(1, 3), (2, 0)], ("lead", 1))

    def test_the_first_words_lead_and_keep(self):
        for lead in range(4):
            for place in ((0, 0), (0, 2), (1, 0), (2, 1)):
                self.check((5, 3, 1, 3), [word(lead, True)], [place], None)
        for first, page, expected in ((1, 0, None), (1, 1, ("lead", 0)), (0, 0, ("lead", 0)), (0, 1, None)):
            for row in range(3):
                self.check((5, 3, first, 3), [word(4, True)], [(page, row)], expected)

    def test_wide(self):
        self.check((5, 3, 1, 3), plain("12", "45"), [(0, 0), (0, 0)], None)
        self.check((5, 3, 1, 3), plain("12", "456"), [(0, 0), (0, 0)], ("wide", 1))
        self.check((5, 3, 1, 3), plain("12", "456"), [(0, 0), (0, 1)], None)
        self.check((5, 3, 1, 3), plain("1", "3", "5"), [(0, 0)] * 3, None)
        self.check((5, 3, 1, 3), plain("1", "3", "56"), [(0, 0)] * 3, ("wide", 2))
        self.check((5, 3, 1, 3), plain("1", "3", "5", "7"), [(0, 0)] * 4, ("wide", 3))
        self.check((5, 3, 1, 3), plain("12345"), [(0, 0)], None)
        self.check((5, 3, 1, 3), plain("123456"), [(0, 0)], ("wide", 0))
        self.check((5, 3, 1, 3), plain("x", "123456"), [(0, 0), (1, 0)], ("wide", 1))

    def test_words_in_the_same_row_of_two_pages(self):
        self.check((5, 3, 1, 3), plain("123", "123"), [(0, 1), (1, 1)], None)

    def test_high(self):
        foot = tall(2)
        self.check((5, 3, 1, 3), [word(foot=foot)], [(0, 0)], None)
        self.check((5, 3, 1, 3), [word(foot=foot)], [(0, 1)], ("high", 0))
        self.check((5, 3, 1, 3), [word(foot=tall(3))], [(0, 0)], ("high", 0))
        self.check((5, 3, 1, 3), [word(foot=tall(1)), word()], [(0, 0), (0, 1)], None)
        self.check((5, 3, 1, 3), [word(foot=tall(1)), word()], [(0, 0), (0, 2)], ("high", 1))
        self.check((5, 3, 1, 3), [word(foot=tall(1)), word(foot=tall(1))], [(0, 0), (0, 0)], None)
        self.check((5, 3, 1, 3), [word(foot=tall(1)), word(foot=tall(1))], [(0, 0), (0, 1)], ("high", 1))
        self.check((5, 3, 1, 3), [word(foot=tall(2)), word(foot=tall(1))], [(0, 0), (0, 0)], ("high", 1))
        self.check((5, 3, 1, 3), [word(foot=tall(2)), word(foot=tall(2))], [(0, 0), (1, 0)], None)
        self.check((5, 3, 1, 3), [word()], [(0, 2)], None)

    def test_a_foot_with_a_saying_wider_than_wide(self):
        self.check((5, 3, 1, 3), [word(foot=tall(1, 6))], [(0, 0)], ("high", 0))
        self.check((5, 60, 1, 3), [word(foot=tall(1, 6))], [(0, 0)], ("high", 0))

    def test_kept(self):
        self.check((5, 3, 1, 3), [word(), word(kept=True)], [(0, 0), (0, 2)], None)
        self.check((5, 3, 1, 3), [word(), word(kept=True)], [(0, 2), (1, 0)], ("kept", 1))
        self.check((5, 3, 1, 3), [word(kept=True), word()], [(0, 2), (1, 0)], None)
        self.check((5, 3, 1, 3), [word(), word(kept=True), word(kept=True)], [(0, 2), (0, 2), (1, 0)], ("kept", 2))
        self.check((5, 3, 1, 3), [word(), word(3, True)], [(0, 0), (1, 0)], ("kept", 1))


class Several(Checked):
    FORM = (5, 3, 1, 3)

    def test_two_at_one_word_in_the_order_of_the_kinds(self):
        wide, high = ("text", "w" * 6), tall(3)
        self.check(self.FORM, [word(4, saying=wide, foot=high)], [(3, 0)], ("page", 0))
        self.check(self.FORM, [word(4, saying=wide, foot=high)], [(1, 0)], ("lead", 0))
        self.check(self.FORM, [word(4, saying=wide, foot=high)], [(2, 0)], ("wide", 0))
        self.check(self.FORM, [word(4, foot=high)], [(2, 0)], ("high", 0))
        two = [word(), word(0, True, wide, high)]
        self.check(self.FORM, two, [(0, 0), (3, 0)], ("page", 1))
        self.check(self.FORM, two, [(1, 0), (0, 0)], ("lead", 1))
        self.check(self.FORM, two, [(0, 0), (1, 0)], ("wide", 1))
        self.check(self.FORM, [word(), word(0, True, foot=high)], [(0, 0), (1, 0)], ("high", 1))
        self.check(self.FORM, [word(), word(0, True)], [(0, 0), (1, 0)], ("kept", 1))

    def test_two_at_two_words(self):
        words = [word(saying=("text", "w" * 6)), word(), word(foot=tall(3))]
        self.check(self.FORM, words, [(0, 0), (0, 1), (0, 2)], ("wide", 0))
        self.check(self.FORM, words[1:], [(0, 1), (0, 2)], ("high", 1))
        words = [word(), word(0, True), word()]
        self.check(self.FORM, words, [(0, 0), (1, 0), (3, 0)], ("kept", 1))
        self.check(self.FORM, words, [(0, 0), (0, 0), (3, 0)], ("page", 2))
        self.check(self.FORM, words, [(1, 0), (0, 0), (3, 0)], ("lead", 1))

    def test_a_stretch_ends_where_another_place_stands_between(self):
        words = plain("123", "123", "123")
        self.check((5, 3, 1, 3), words, [(0, 0), (0, 1), (0, 0)], ("lead", 2))

    def test_the_feet_of_the_stretch_alone(self):
        words = [word(foot=tall(2)), word(foot=tall(1)), word()]
        self.check((5, 3, 1, 3), words, [(0, 0), (1, 0), (1, 1)], None)
        self.check((5, 3, 1, 3), words, [(0, 0), (1, 0), (1, 2)], ("high", 2))


class Pointing(Checked):
    def test_widths_are_those_of_the_laying(self):
        words = [word(saying=("page", 1)), word(saying=("text", "x"))]
        self.check((1, 1, 8, 3), words, [(0, 0), (1, 0)], None)
        self.check((1, 1, 8, 3), words, [(0, 0), (2, 0)], ("wide", 0))
        self.check((4, 2, 8, 3), [word(), word(saying=("page", 0))], [(1, 1), (1, 1)], None)
        self.check((3, 2, 8, 3), [word(), word(saying=("page", 0))], [(1, 1), (1, 1)], None)
        self.check((3, 2, 9, 3), [word(), word(saying=("page", 0))], [(1, 1), (1, 1)], ("wide", 1))

    def test_rows(self):
        words = [word(saying=("row", 1)), word()]
        self.check((1, 10, 1, 3), words, [(0, 0), (0, 8)], None)
        self.check((1, 10, 1, 3), words, [(0, 0), (0, 9)], ("wide", 0))
        self.check((2, 60, 1, 3), words, [(0, 0), (1, 38)], None)
        self.check((2, 60, 1, 3), words, [(0, 0), (1, 39)], ("wide", 0))

    def test_heights_are_those_of_the_laying(self):
        words = [word(foot=[("text", "ab"), ("page", 1)]), word()]
        self.check((4, 3, 8, 3), words, [(0, 1), (1, 0)], None)
        self.check((4, 3, 8, 3), words, [(0, 1), (2, 0)], ("high", 0))
        self.check((4, 3, 8, 3), words, [(0, 0), (2, 0)], None)
        self.check((4, 2, 8, 3), words, [(0, 0), (2, 0)], ("high", 0))

    def test_page_numbers_at_powers_of_ten(self):
        for power in range(1, 61):
            form = (power, 1, 10 ** power - 2, 3)
            words = [word(saying=("page", 0)), word(saying=("page", 0))]
            self.check(form, words, [(0, 0), (1, 0)], None)
            self.check(form, words, [(1, 0), (2, 0)], None)
            self.check(form, words, [(2, 0), (2, 0)], ("wide", 0))
            self.check(form, [word(), word(saying=("page", 1))], [(0, 0), (2, 0)], ("wide", 1))

    def test_pages_and_a_first_of_60_figures(self):
        words = [word(), word(4, saying=("page", 1))]
        self.check((61, 2, FAR, 60), words, [(0, 0), (1, 0)], None)
        self.check((60, 2, FAR, 60), words, [(0, 0), (1, 0)], ("wide", 1))
        self.check((61, 2, FAR, 60), words, [(0, 0), (2, 0)], ("lead", 1))
        self.check((61, 2, FAR, 60), words, [(0, 0), (FAR, 0)], ("page", 1))
        self.check((61, 2, FAR, 60), words, [(FAR, 0), (FAR, 0)], ("page", 0))


class LongBooks(Checked):
    def test_400_words(self):
        form = (3, 4, 1, 60)
        places = [(k // 8, k // 2 - k // 8 * 4) for k in range(400)]
        self.check(form, plain("x") * 400, places, None)
        self.check(form, plain("x") * 399 + plain("xx"), places, ("wide", 399))
        feet = [word(foot=[("row", 399), ("page", k)]) for k in range(400)]
        self.check((3, 4, 1, 60), feet, places, ("high", 1))

    def test_400_words_at_one_place(self):
        self.check((200, 1, 1, 1), plain("x") * 400, [(0, 0)] * 400, ("wide", 100))


def so(book, places, kind, k):
    """Whether one of the five is so of word k, by the words of point 20, with no measure but signs counted."""
    (wide, high, first, most), words = book
    lead, kept = words[k][:2]
    page, row = places[k]

    def text(saying):
        if saying[0] == "text":
            return saying[1]
        p, r = places[saying[1]]
        return str(first + p) if saying[0] == "page" else str(p * high + r + 1)

    def foot(number):
        sayings = [text(saying) for saying in words[number][3]]
        rows, room = 0, -1
        for one in sayings:
            room -= len(one) + 1
            if room < 0:
                rows, room = rows + 1, wide - len(one)
        return high if rows > high or any(len(one) > wide for one in sayings) else rows

    if kind == "page":
        return page < most
    if kind == "lead":
        if lead == 4 and (first + page) % 2 == 0:
            return False
        if k == 0:
            return True
        p, r = places[k - 1]
        rows_on = (page, row) >= (p, r) and (page > p or row >= r + min(lead, 2))
        return page > p if lead >= 3 else rows_on
    if kind == "wide":
        others = [j for j in range(k + 1) if all(places[i] == places[k] for i in range(j, k + 1))]
        return len(" ".join(text(words[j][2]) for j in others)) <= wide
    if kind == "high":
        others = [j for j in range(k + 1) if all(places[i][0] == page for i in range(j, k + 1))]
        return row + 1 + sum(foot(j) for j in others) <= high
    return k == 0 or not kept or places[k - 1][0] == page


def fault_by_words(book, places):
    for k in range(len(places)):
        for kind in KINDS:
            if not so(book, places, kind, k):
                return (kind, k)
    return None


class AllLayingsOfSmallBooks(unittest.TestCase):
    """Books by a chance that is the same each time."""

    def test_against_the_words_of_the_document(self):
        met = set()
        for seed in range(600):
            book = some_book(random.Random(seed), 3)
            for places in all_layings(book, book[0][3] + (seed % 5 == 0)):
                told = first_fault(book, places)
                if told != fault_by_words(book, places):
                    self.fail(f"{book} {places}: {told}, not {fault_by_words(book, places)}")
                met.add(told and told[0])
        self.assertEqual(met, set(KINDS) | {None})

    def test_the_earlier_one_of_two_true_ones_is_true(self):
        neither = 0
        for seed in range(300):
            book = some_book(random.Random(seed), 3)
            true = [places for places in all_layings(book, book[0][3]) if first_fault(book, places) is None]
            pairs = [(one, other) for one in true for other in true]
            for one, other in random.Random(seed).sample(pairs, min(len(pairs), 60)):
                earlier = earlier_of(one, other)
                self.assertIsNone(first_fault(book, earlier), (book, one, other))
                neither += earlier not in (one, other)
        self.assertGreater(neither, 20)


class Earlier(unittest.TestCase):
    def test_two_of_which_neither_is_earlier_everywhere(self):
        one = [(0, 0), (1, 2), (2, 0)]
        other = [(0, 1), (1, 0), (1, 9)]
        self.assertEqual(check_own(self, earlier_of, one, other), [(0, 0), (1, 0), (1, 9)])
        self.assertEqual(check_own(self, earlier_of, other, one), [(0, 0), (1, 0), (1, 9)])

    def test_one_that_is_earlier_everywhere(self):
        self.assertEqual(earlier_of([(0, 0), (0, 1)], [(0, 2), (3, 0)]), [(0, 0), (0, 1)])
        self.assertEqual(earlier_of([(0, 2), (3, 0)], [(0, 0), (0, 1)]), [(0, 0), (0, 1)])

    def test_the_same_and_empty_ones(self):
        places = [(0, 1), (2, 2)]
        self.assertEqual(check_own(self, earlier_of, places, places), [(0, 1), (2, 2)])
        self.assertEqual(check_own(self, earlier_of, [], []), [])

    def test_pages_ahead_of_rows(self):
        self.assertEqual(earlier_of([(1, 0)], [(0, 5)]), [(0, 5)])
        self.assertEqual(earlier_of([(FAR, 0)], [(FAR - 1, 59)]), [(FAR - 1, 59)])

    def test_two_true_ones(self):
        book = ((9, 3, 8, 5), [word(saying=("page", 1)), word(1), word(3, saying=("row", 0))])
        one = [(0, 0), (1, 2), (2, 0)]
        other = [(0, 2), (1, 0), (4, 1)]
        self.assertIsNone(first_fault(book, one))
        self.assertIsNone(first_fault(book, other))
        earlier = earlier_of(one, other)
        self.assertEqual(earlier, [(0, 0), (1, 0), (2, 0)])
        self.assertIsNone(first_fault(book, earlier))


if __name__ == "__main__":
    unittest.main()
