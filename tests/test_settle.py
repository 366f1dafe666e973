"""Points 2, 3, 28 and 29: books settled, and the papers that lead to their layings."""

import random
import unittest

from helper import (check_own, first_of_all, plain, put_in, some_book, some_bounds, some_saying, tall, true_layings,
                    word)
from trueleaf.books import book_of
from trueleaf.bounds import first_bounds, raised, walked
from trueleaf.settle import settle
from trueleaf.truths import first_fault

FAR = 10 ** 60


def stands_beyond(book, places):
    return any(place[0] >= book[0][3] for place in places)


class Checked(unittest.TestCase):
    def settled(self, book, *low):
        """The told laying, or None, once its paper has been walked and the laying looked through."""
        told = check_own(self, settle, book, *low)
        self.assertIs(type(told), tuple)
        laying, paper = told
        self.assertIs(type(paper), list)
        self.assertTrue(all(type(one) is tuple and len(one) == 4 for one in paper))
        bounds = low[0] if any(low) else first_bounds(book)
        ends = walked(book, bounds, paper)
        if laying is None:
            self.assertTrue(stands_beyond(book, ends), (book, paper))
            return None
        self.assertIs(type(laying), list)
        self.assertEqual(ends, laying, (book, paper))
        self.assertIsNone(first_fault(book, laying), (book, laying))
        self.assertTrue(all(place >= bound for place, bound in zip(laying, bounds)), (book, laying))
        self.assertTrue(all(raised(book, laying, i) == laying[i] for i in range(0, len(laying), 7)))
        return laying

    def check(self, form, words, expected):
        book = book_of(form, words)
        self.assertEqual(self.settled(book), expected)
        self.assertEqual(self.settled(book, None), expected)
        self.assertEqual(self.settled(book, first_bounds(book)), expected)


class Rows(Checked):
    def test_a_book_without_words(self):
        self.check((5, 5, 1, 1), [], [])

    def test_one_word(self):
        self.check((5, 5, 1, 1), plain("12345"), [(0, 0)])
        self.check((1, 1, 0, 1), plain("1"), [(0, 0)])

    def test_words_fill_rows_and_pages(self):
        self.check((5, 2, 1, 9), plain("ab", "cd", "ef", "gh", "ij", "kl", "mn", "op"),
                   [(0, 0), (0, 0), (0, 1), (0, 1), (1, 0), (1, 0), (1, 1), (1, 1)])
        self.check((4, 2, 1, 9), plain("ab", "cd", "ef"), [(0, 0), (0, 1), (1, 0)])

    def test_leads_in_the_midst(self):
        for lead, place in enumerate(((0, 0), (0, 1), (0, 2), (1, 0), (2, 0))):
            self.check((5, 3, 1, 9), [word(), word(lead), word()], [(0, 0), place, place])
        for lead, place in enumerate(((0, 0), (0, 1), (0, 2), (1, 0), (1, 0))):
            self.check((5, 3, 0, 9), [word(), word(lead), word()], [(0, 0), place, place])
        self.check((5, 2, 1, 9), [word(), word(2)], [(0, 0), (1, 0)])
        words = [word(3), word(3), word(4), word(4), word(3)]
        self.check((5, 3, 1, 9), words, [(0, 0), (1, 0), (2, 0), (4, 0), (5, 0)])

    def test_leads_at_the_first_word(self):
        for lead in range(4):
            self.check((5, 3, 0, 9), [word(lead)], [(0, 0)])
        self.check((5, 3, 0, 9), [word(4)], [(1, 0)])
        self.check((5, 3, 1, 9), [word(4)], [(0, 0)])
        self.check((5, 3, FAR, 9), [word(4), word()], [(1, 0), (1, 0)])
        self.check((5, 3, 0, 1), [word(4)], None)
        self.check((5, 3, 1, 1), [word(4)], [(0, 0)])

    def test_a_wide_word_of_lead_4_on_an_even_page(self):
        # The row behind the first word is the top of an even page, where the second word may not stand.
        self.check((5, 1, 1, 9), [word(), word(0), word(4, saying=("text", "12345"))], [(0, 0), (0, 0), (2, 0)])

    def test_the_last_word_just_fits_the_last_page(self):
        self.check((5, 2, 1, 2), plain("1234", "1234", "1234", "1234"), [(0, 0), (0, 1), (1, 0), (1, 1)])
        self.check((5, 2, 1, 2), plain("1234", "1234", "1234", "1234", "1"), None)
        self.check((5, 2, 1, 2), plain("1234", "1234", "1234", "123", "1"), [(0, 0), (0, 1), (1, 0), (1, 1), (1, 1)])
        self.check((5, 2, 1, 2), [word(), word(3, foot=tall(1))], [(0, 0), (1, 0)])
        self.check((5, 2, 1, 2), [word(), word(3, foot=tall(2))], None)
        self.check((5, 2, 1, 1), [word(), word(3)], None)


class Pointing(Checked):
    def test_to_a_later_word(self):
        self.check((3, 1, 8, 9), [word(saying=("page", 2)), word(), word(3)], [(0, 0), (0, 0), (1, 0)])
        self.check((3, 1, 9, 9), [word(saying=("page", 2)), word(), word(3)], [(0, 0), (1, 0), (2, 0)])

    def test_to_itself_and_to_one_another(self):
        self.check((2, 1, 9, 9), [word(), word(saying=("page", 1))], [(0, 0), (1, 0)])
        self.check((3, 1, 9, 9), [word(), word(saying=("page", 1))], [(0, 0), (0, 0)])
        self.check((4, 1, 9, 9), [word(saying=("page", 1)), word(3, saying=("page", 0))], [(0, 0), (1, 0)])
        self.check((1, 1, 9, 9), [word(saying=("page", 1)), word(3, saying=("page", 0))], None)

    def test_a_row_that_grows_at_a_power_of_ten(self):
        words = [word(saying=("row", 9))] + plain("xx") + [word(1)] * 8
        self.check((4, 5, 1, 9), words, [(0, 0)] * 2 + [(k // 5, k % 5) for k in range(1, 9)])
        # Here the last word's row is the tenth at the earliest: so the second word does not fit behind the first.
        words = [word(saying=("row", 9))] + plain("xx") + [word(1)] * 7 + [word(2)]
        self.check((4, 5, 1, 9), words, [(0, 0), (0, 1)] + [(k // 5, k % 5) for k in range(2, 9)] + [(2, 0)])

    def test_of_two_true_layings_the_earlier_one(self):
        # With the pointed word on page 9 the first two share a row; on page 10 they don't, which is true, too.
        book = ((3, 1, 8, 9), [word(saying=("page", 2)), word(), word(1)])
        self.assertIsNone(first_fault(book, [(0, 0), (1, 0), (2, 0)]))
        self.check(*book, [(0, 0), (0, 0), (1, 0)])
        self.assertEqual(self.settled(book, [(0, 0), (1, 0), (0, 0)]), [(0, 0), (1, 0), (2, 0)])
        self.assertEqual(self.settled(book, [(0, 0), (0, 0), (2, 0)]), [(0, 0), (1, 0), (2, 0)])

    def test_a_first_of_60_figures(self):
        words = [word(saying=("page", 0)), word(saying=("page", 2)), word(3, saying=("row", 2))]
        self.check((121, 3, FAR - 2, 9), words, [(0, 0), (0, 0), (1, 0)])
        self.check((121, 3, FAR - 1, 9), words, [(0, 0), (0, 1), (1, 0)])
        self.check((122, 3, FAR - 1, 9), words, [(0, 0), (0, 0), (1, 0)])
        self.check((60, 3, FAR - 1, 9), words, None)

    def test_a_foot_that_grows(self):
        words = [word(foot=[("text", "ab"), ("page", 3)]), word(1), word(1), word(3)]
        self.check((4, 4, 8, 9), words, [(0, 0), (0, 1), (0, 2), (1, 0)])
        self.check((4, 4, 9, 9), words, [(0, 0), (0, 1), (1, 0), (2, 0)])


class Feet(Checked):
    def test_a_foot_pushes_its_word_to_the_next_page(self):
        self.check((5, 3, 1, 9), [word(), word(1), word(1, foot=tall(1))], [(0, 0), (0, 1), (1, 0)])
        self.check((5, 3, 1, 9), [word(), word(1, foot=tall(1)), word()], [(0, 0), (0, 1), (0, 1)])
        self.check((5, 3, 1, 9), [word(), word(foot=tall(2)), word()], [(0, 0)] * 3)
        self.check((5, 3, 1, 9), [word(1, foot=tall(1)), word(foot=tall(2)), word()], [(0, 0), (1, 0), (1, 0)])

    def test_a_foot_pushes_later_words_to_the_next_page(self):
        self.check((5, 3, 1, 9), [word(foot=tall(1)), word(1), word(1)], [(0, 0), (0, 1), (1, 0)])
        self.check((5, 3, 1, 9), [word(foot=tall(2)), word(1), word(1)], [(0, 0), (1, 0), (1, 1)])

    def test_many_feet_on_a_page(self):
        words = [word(foot=tall(1))] * 7
        self.check((13, 4, 1, 9), words, [(0, 0)] * 3 + [(1, 0)] * 3 + [(2, 0)])


class Keeps(Checked):
    def test_over_several_words(self):
        words = plain("123") + [word(1), word(1, True), word(1, True)]
        self.check((5, 3, 1, 9), words, [(0, 0), (1, 0), (1, 1), (1, 2)])
        self.check((5, 4, 1, 9), words, [(0, 0), (0, 1), (0, 2), (0, 3)])
        self.check((5, 2, 1, 9), words, None)

    def test_of_the_first_word(self):
        self.check((5, 3, 1, 9), [word(kept=True), word(3)], [(0, 0), (1, 0)])

    def test_a_kept_word_on_the_next_page_by_its_lead(self):
        self.check((5, 3, 1, 9), [word(), word(3, True)], None)
        self.check((5, 3, 1, 9), [word(), word(4, True)], None)

    def test_one_chain_pushes_the_next(self):
        words = [word(), word(1), word(1, True), word(1), word(1, True)]
        self.check((5, 2, 1, 9), words, [(0, 0), (1, 0), (1, 1), (2, 0), (2, 1)])

    def test_a_word_brought_along_stands_behind_the_top(self):
        words = [word(), word(1), word(1, True), word(1, True, foot=tall(2)), word()]
        self.check((5, 5, 1, 9), words, [(0, 0), (1, 0), (1, 1), (1, 2), (1, 2)])

    def test_a_chain_longer_than_any_page(self):
        self.check((5, 60, 1, 60), [word(1, True)] * 61, None)
        self.check((5, 60, 1, 60), [word(1, True)] * 60, [(0, k) for k in range(60)])


class NoPageCanHold(Checked):
    def test_a_wide_word(self):
        self.check((5, 3, 1, 9), plain("123456"), None)
        self.check((5, 3, 1, 9), plain("1", "2", "123456", "3"), None)

    def test_a_high_foot(self):
        self.check((5, 3, 1, 9), [word(), word(foot=tall(3))], None)
        self.check((5, 3, 1, 9), [word(foot=tall(1, 6))], None)
        self.check((5, 1, 1, 9), [word(foot=tall(1))], None)

    def test_a_word_that_gets_too_wide(self):
        self.check((1, 1, 9, 9), [word(), word(saying=("page", 1))], None)
        self.check((1, 1, 0, 60), [word(saying=("row", 9))] + [word()] * 9, None)
        self.check((1, 1, 0, 60), [word(saying=("row", 8))] + [word()] * 9, [(k, 0) for k in range(10)])


class HandedIn(Checked):
    BOOK = ((5, 2, 1, 3), plain("ab", "cd", "ef", "gh"))
    LAYING = [(0, 0), (0, 0), (0, 1), (0, 1)]

    def test_ahead_of_the_told_laying(self):
        for k in range(4):
            low = self.LAYING[:k] + [(0, 0)] * (4 - k)
            self.assertEqual(self.settled(self.BOOK, low), self.LAYING)

    def test_at_the_told_laying(self):
        self.assertEqual(settle(self.BOOK, self.LAYING), (self.LAYING, []))
        self.assertEqual(self.settled(self.BOOK, self.LAYING), self.LAYING)

    def test_behind_the_told_laying(self):
        self.assertEqual(self.settled(self.BOOK, [(0, 0), (0, 1), (0, 0), (0, 0)]), [(0, 0), (0, 1), (0, 1), (1, 0)])
        self.assertEqual(self.settled(self.BOOK, [(1, 1), (0, 0), (0, 0), (0, 0)]), [(1, 1), (1, 1), (2, 0), (2, 0)])
        self.assertEqual(self.settled(self.BOOK, [(0, 0), (0, 0), (0, 0), (2, 1)]), [(0, 0), (0, 0), (0, 1), (2, 1)])
        self.assertIsNone(self.settled(self.BOOK, [(0, 0), (0, 0), (2, 1), (2, 1)][::-1]))

    def test_a_true_laying_is_told_as_it_is(self):
        low = [(0, 1), (1, 0), (1, 0), (2, 1)]
        self.assertIsNone(first_fault(self.BOOK, low))
        self.assertEqual(settle(self.BOOK, low), (low, []))

    def test_beyond_the_last_page(self):
        for k in range(4):
            for page in (3, 4, FAR):
                low = list(self.LAYING)
                low[k] = (page, 0)
                self.assertIsNone(self.settled(self.BOOK, low))
        self.assertIsNone(self.settled(self.BOOK, [(FAR, 1)] * 4))

    def test_kept_words(self):
        book = ((5, 2, 1, 3), [word(), word(kept=True), word(kept=True)])
        self.assertEqual(self.settled(book, [(0, 0), (0, 0), (2, 1)]), [(2, 0), (2, 0), (2, 1)])
        self.assertEqual(self.settled(book, [(0, 0), (1, 1), (0, 0)]), [(1, 0), (1, 1), (1, 1)])

    def test_rows_at_which_a_foot_does_not_fit(self):
        book = ((5, 3, 1, 3), [word(foot=tall(1)), word(foot=tall(1))])
        self.assertEqual(self.settled(book, [(0, 2), (0, 0)]), [(1, 0), (1, 0)])
        self.assertEqual(self.settled(book, [(0, 1), (0, 1)]), [(0, 1), (1, 0)])
        self.assertEqual(self.settled(book, [(0, 0), (2, 2)]), None)

    def test_the_list_of_bounds_is_not_told_nor_kept(self):
        low = list(self.LAYING)
        told = settle(self.BOOK, low)[0]
        low[3] = (2, 1)
        self.assertEqual(told, self.LAYING)
        told[0] = (9, 9)
        self.assertEqual(settle(self.BOOK, list(self.LAYING))[0], self.LAYING)


class SmallBooks(Checked):
    """Books by a chance that is the same each time, against all their layings."""

    def test_the_first_true_laying_of_all(self):
        ends = {True: 0, False: 0}
        for seed in range(700):
            chance = random.Random(seed)
            book = some_book(chance)
            laying = self.settled(book)
            self.assertEqual(laying, first_of_all(true_layings(book, first_bounds(book))), book)
            ends[laying is None] += 1
        self.assertGreater(min(ends.values()), 200)

    def test_the_first_true_laying_that_bounds_let(self):
        ends = {True: 0, False: 0}
        for seed in range(700):
            chance = random.Random(seed)
            book = some_book(chance, 3)
            low = some_bounds(chance, book, 2)
            laying = self.settled(book, low)
            self.assertEqual(laying, first_of_all(true_layings(book, low)), (book, low))
            ends[laying is None] += 1
        self.assertGreater(min(ends.values()), 150)

    def test_any_true_laying_handed_in_is_told(self):
        for seed in range(60):
            book = some_book(random.Random(seed), 3)
            for places in true_layings(book, first_bounds(book)):
                self.assertEqual(settle(book, places), (places, []))

    def test_nothing_that_is_put_in_brings_a_word_to_an_earlier_place(self):
        met = {}
        for seed in range(1200):
            chance = random.Random(seed)
            book = some_book(chance, 6)
            for kind, newer, numbers in changes(chance, book):
                before, behind = self.settled(book), self.settled(newer)
                if before is None:
                    self.assertIsNone(behind, (book, kind, newer))
                elif behind is not None:
                    pairs = [(before[k], behind[number]) for k, number in enumerate(numbers)]
                    self.assertTrue(all(one <= other for one, other in pairs), (book, kind, newer))
                    met[kind, before == [other for one, other in pairs]] = True
        self.assertEqual(len(met), 10)


def changes(chance, book):
    """Books with something put in, as tuples (kind, book, the numbers that the words have in it)."""
    form, words = book
    many = len(words)
    at = chance.randint(0, many)
    kept = at < many and words[at][1] or chance.random() < 0.3
    run = [(chance.choice((0, 0, 1, 2)), kept, some_saying(chance, many + 1), [])]
    yield "a word", put_in(book, at, run), list(range(at)) + list(range(at + 1, many + 1))
    if words:
        k = chance.randrange(many)
        lead, kept, saying, foot = words[k]
        if saying[0] == "text":
            yield "a wider text", exchanged(book, k, (lead, kept, ("text", saying[1] + "x"), foot)), range(many)
        more = [foot[i:] + [some_saying(chance, many)] + foot[:i] for i in (0, len(foot))]
        yield "more of a foot", exchanged(book, k, (lead, kept, saying, chance.choice(more))), range(many)
        stronger = min(4, lead + chance.randint(1, 2))
        yield "a stronger lead", exchanged(book, k, (stronger, kept, saying, foot)), range(many)
        yield "a keep", exchanged(book, k, (lead, True, saying, foot)), range(many)


def exchanged(book, k, newer):
    return (book[0], book[1][:k] + [newer] + book[1][k + 1:])


class Books(Checked):
    """Books as long as books may be."""

    def test_400_words_in_rows(self):
        words = plain(*["12345"] * 400)
        self.check((10, 8, 1, 50), words, [(k // 8, k % 8) for k in range(400)])
        self.check((10, 8, 1, 49), words, None)
        self.check((11, 4, 1, 50), words, [(k // 8, k // 2 % 4) for k in range(400)])

    def test_400_words_on_one_row(self):
        self.check((200, 60, 1, 1), plain(*["1"] * 400), [(0, k // 100) for k in range(400)])

    def test_a_chain_of_400_kept_words(self):
        words = [word(kept=True, saying=("text", "1234"))] * 400
        self.assertIsNone(self.settled(((10, 60, 1, 60), words)))
        self.assertEqual(self.settled(((39, 50, 1, 60), words)), [(0, k // 8) for k in range(400)])
        self.assertIsNone(self.settled(((39, 49, 1, 60), words)))

    def test_every_word_points(self):
        for wide in (4, 5, 7, 9, 12, 40):
            for far in (lambda k: min(k + 1, 399), lambda k: 399 - k, lambda k: k, lambda k: k * 7 % 400):
                words = [word(saying=("row", far(k)), kept=k % 3 == 1) for k in range(400)]
                self.assertIsNotNone(self.settled(((wide, 30, 95, 60), words)))

    def test_long_feet(self):
        words = []
        for k in range(400):
            words.append(word(saying=("row", k * 7 % 400), foot=[("row", (k + i) % 400) for i in range(40)]))
        self.assertIsNotNone(self.settled(((200, 60, 1, 60), words)))
        self.assertIsNone(self.settled(((200, 6, 1, 60), words)))

    def test_some_hundred_words_of_all_kinds(self):
        ends = {True: 0, False: 0}
        for seed in range(60):
            chance = random.Random(seed)
            form = (chance.choice((6, 10, 20, 60)), chance.choice((3, 5, 20, 60)), chance.choice((0, 1, 55, 95)), 60)
            words = []
            for k in range(chance.choice((100, 200, 400))):
                leads = [0] * 8 + [1, 2, 2]
                if k % 25 == 0:
                    leads.extend((3, 4))
                lead = chance.choice(leads)
                words.append((lead, chance.random() < 0.1, ("text", "x" * chance.randint(1, 5)), []))
            for k in chance.sample(range(len(words)), 60):
                foot = [some_saying(chance, len(words)) for each in range(chance.choice((0, 0, 0, 1, 2)))]
                words[k] = words[k][:2] + (some_saying(chance, len(words)), foot)
            ends[self.settled((form, words)) is None] += 1
        self.assertGreater(min(ends.values()), 15)


if __name__ == "__main__":
    unittest.main()
