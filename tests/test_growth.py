"""Points 2, 30 and 31: books grown from elder ones, and places carried to them."""

import random
import unittest

from helper import check_own, check_refused, plain, put_in, some_book, some_bounds, some_saying, with_shifted, word
from trueleaf.bounds import first_bounds
from trueleaf.errors import NoGrowth
from trueleaf.growth import carried, growth
from trueleaf.settle import settle

FAR = 10 ** 60
FORM = (5, 3, 1, 9)


class Checked(unittest.TestCase):
    def check(self, old, new, expected):
        told = check_own(self, growth, old, new)
        self.assertEqual(told, expected, (old, new))
        self.assertIs(type(told), tuple if expected else type(None))
        places = [(k, 0) for k in range(len(old[1]))]
        if expected is None:
            check_refused(self, NoGrowth, carried, old, new, places)
        else:
            at, many = expected
            told = check_own(self, carried, old, new, places)
            self.assertEqual(told, places[:at] + [(0, 0)] * many + places[at:])
            self.assertIs(type(told), list)

    def check_words(self, old, new, expected):
        self.check((FORM, old), (FORM, new), expected)


class PutIn(Checked):
    def test_nothing(self):
        self.check_words([], [], (0, 0))
        self.check_words(plain("a"), plain("a"), (0, 0))
        words = [word(), word(4, True, ("page", 0), [("row", 1)])]
        self.check_words(words, list(words), (0, 0))

    def test_one_word(self):
        self.check_words([], plain("x"), (0, 1))
        self.check_words(plain("a", "b", "c"), plain("x", "a", "b", "c"), (0, 1))
        self.check_words(plain("a", "b", "c"), plain("a", "x", "b", "c"), (1, 1))
        self.check_words(plain("a", "b", "c"), plain("a", "b", "x", "c"), (2, 1))
        self.check_words(plain("a", "b", "c"), plain("a", "b", "c", "x"), (3, 1))

    def test_several_words(self):
        self.check_words([], plain("x", "y", "z"), (0, 3))
        self.check_words(plain("a", "b"), plain("x", "y", "z", "a", "b"), (0, 3))
        self.check_words(plain("a", "b"), plain("a", "x", "y", "z", "b"), (1, 3))
        self.check_words(plain("a", "b"), plain("a", "b", "x", "y", "z"), (2, 3))

    def test_the_least_number_where_several_would_do(self):
        self.check_words(plain("a", "a"), plain("a", "a", "a"), (0, 1))
        self.check_words(plain("b", "a", "a"), plain("b", "a", "a", "a"), (1, 1))
        self.check_words(plain("a", "b"), plain("a", "b", "a", "b"), (0, 2))
        self.check_words(plain("c", "a", "b"), plain("c", "a", "b", "a", "b"), (1, 2))
        self.check_words(plain("a", "b", "d"), plain("a", "b", "a", "b", "d"), (0, 2))

    def test_400_words(self):
        words = [word(saying=("row", k * 7 % 399), foot=[("page", k)]) for k in range(399)]
        for at in (0, 1, 200, 398, 399):
            self.check((FORM, words), put_in((FORM, words), at, [word(saying=("text", "new"))]), (at, 1))


class KeptBehindTheRun(Checked):
    def test_all_are_kept(self):
        old = [word(), word(kept=True)]
        self.check_words(old, [word(), word(2, True), word(kept=True)], (1, 1))
        self.check_words(old, [word(), word(2, True), word(3, True), word(kept=True)], (1, 2))

    def test_one_is_not_kept(self):
        old = [word(), word(kept=True)]
        self.check_words(old, [word(), word(2), word(kept=True)], None)
        self.check_words(old, [word(), word(2), word(3, True), word(kept=True)], None)
        self.check_words(old, [word(), word(2, True), word(3), word(kept=True)], None)

    def test_at_the_end_and_ahead_of_a_word_that_is_not_kept(self):
        self.check_words([word(), word(kept=True)], [word(), word(kept=True), word(2)], (2, 1))
        self.check_words([word(), word(kept=True)], [word(2), word(), word(kept=True)], (0, 1))

    def test_ahead_of_the_first_word(self):
        self.check_words([word(kept=True)], [word(2), word(kept=True)], None)
        self.check_words([word(kept=True)], [word(2, True), word(kept=True)], (0, 1))

    def test_a_greater_number_does_where_the_least_would_not(self):
        # Ahead of the kept word the run would begin with one that is not kept; behind it the same words do.
        self.check_words([word(kept=True), word()], [word(kept=True), word(), word()], (1, 1))
        kept, other = word(kept=True), word()
        self.check_words([kept, other, kept], [kept, other, kept, other, kept], (1, 2))

    def test_nothing_put_in_ahead_of_a_kept_word(self):
        self.check_words([word(kept=True)], [word(kept=True)], (0, 0))


class PointingNumbers(Checked):
    def old(self, k, foot):
        saying = ("text", "a") if foot else ("page", k)
        return [word(saying=saying, foot=[("text", "f"), ("row", k)] if foot else [])] + plain("b", "c", "d")

    def test_below_at_and_behind(self):
        for foot in (False, True):
            for k, newer in ((0, 0), (1, 1), (2, 4), (3, 5)):
                old = self.old(k, foot)
                new = self.old(newer, foot)[:1] + plain("b", "x", "y", "c", "d")
                self.check_words(old, new, (2, 2))
                for other in set(range(6)) - {newer}:
                    self.check_words(old, self.old(other, foot)[:1] + plain("b", "x", "y", "c", "d"), None)

    def test_they_tell_where_the_run_was_put_in(self):
        old = [word(saying=("page", 2))] + plain("a", "a", "a")
        for number, at in ((2, 3), (3, 1)):
            self.check_words(old, [word(saying=("page", number))] + plain("a", "a", "a", "a"), (at, 1))
        self.check_words(old, [word(saying=("page", 4))] + plain("a", "a", "a", "a"), None)

    def test_of_the_words_put_in_they_may_be_any(self):
        for k in range(4):
            new = plain("a") + [word(saying=("row", k), foot=[("page", 3 - k)])] + plain("b", "c")
            self.check_words(plain("a", "b", "c"), new, (1, 1))

    def test_words_that_point_to_themselves(self):
        old = [word(saying=("page", 0)), word(saying=("page", 1))]
        self.check_words(old, [word(saying=("page", 0)), word(saying=("page", 1)), word(saying=("page", 2))], (0, 1))
        self.check_words(old, [word(saying=("page", 1)), word(saying=("page", 1)), word(saying=("page", 2))], (0, 1))
        self.check_words(old, [word(saying=("page", 0)), word(saying=("page", 0)), word(saying=("page", 2))], (1, 1))
        self.check_words(old, [word(saying=("page", 2)), word(saying=("page", 1)), word(saying=("page", 0))], None)


class NotGrown(Checked):
    def test_other_forms(self):
        for k in range(4):
            form = FORM[:k] + (FORM[k] + 1,) + FORM[k + 1:]
            self.check((FORM, plain("a")), (form, plain("a")), None)
            self.check((FORM, plain("a")), (form, plain("a", "b")), None)
            self.check((FORM, []), (form, []), None)
        self.check(((5, 3, FAR, 9), []), ((5, 3, FAR - 1, 9), []), None)

    def test_fewer_words(self):
        self.check_words(plain("a"), [], None)
        self.check_words(plain("a", "b", "c"), plain("a", "b"), None)
        self.check_words(plain("a", "a"), plain("a"), None)

    def test_other_words(self):
        self.check_words(plain("a"), plain("b"), None)
        self.check_words(plain("a"), plain("b", "c"), None)
        self.check_words(plain("a", "b"), plain("b", "a"), None)
        self.check_words(plain("a", "b"), plain("b", "x", "a"), None)

    def test_two_runs(self):
        self.check_words(plain("a", "b", "c"), plain("a", "x", "b", "y", "c"), None)
        self.check_words(plain("a", "b"), plain("x", "a", "b", "y"), None)

    def test_each_thing_of_a_word(self):
        old = word(1, False, ("page", 0), [("text", "f")])
        for other in (word(2, False, ("page", 0), [("text", "f")]), word(1, True, ("page", 0), [("text", "f")]),
                      word(1, False, ("row", 0), [("text", "f")]), word(1, False, ("page", 1), [("text", "f")]),
                      word(1, False, ("text", "0"), [("text", "f")]), word(1, False, ("page", 0), []),
                      word(1, False, ("page", 0), [("text", "g")]), word(1, False, ("page", 0), [("page", 0)]),
                      word(1, False, ("page", 0), [("text", "f"), ("text", "f")])):
            self.check_words([old, word()], [other, word()], None)
            self.check_words([old, word()], [other, word(), word(4)], None)


def by_the_words(old, new):
    """Point 30, with the run cut out of the newer book: the elder words must be left."""
    many = len(new[1]) - len(old[1])
    for at in range(len(old[1]) + 1):
        run = new[1][at:at + many]
        if old[0] == new[0] and many >= 0 and put_in(old, at, run)[1] == new[1]:
            if at == len(old[1]) or not old[1][at][1] or all(one[1] for one in run):
                return (at, many)
    return None


def grown(chance, book):
    """A book grown from this one by a run of words."""
    many = len(book[1])
    at = chance.randint(0, many)
    run = []
    for each in range(chance.choice((0, 1, 1, 2, 3))):
        kept = at < many and book[1][at][1] or chance.random() < 0.3
        run.append((chance.choice((0, 0, 1, 2, 3, 4)), kept, ("text", "xx"), []))
    run = [(*one[:2], some_saying(chance, many + len(run)), []) for one in run]
    return put_in(book, at, run)


class SmallBooks(Checked):
    """Books by a chance that is the same each time."""

    def test_growth_against_the_words_of_the_document(self):
        told = set()
        for seed in range(1500):
            chance = random.Random(seed)
            old = some_book(chance)
            new = grown(chance, old)
            if chance.random() < 0.3 and new[1]:
                words = list(new[1])
                words[chance.randrange(len(words))] = chance.choice(words)
                new = (new[0], words)
            self.check(old, new, by_the_words(old, new))
            told.add(growth(old, new))
        self.assertTrue({None, (0, 0), (0, 1), (1, 1), (2, 1), (3, 2), (4, 3)} <= told, told)

    def test_settled_from_carried_places(self):
        met = {True: 0, False: 0}
        for seed in range(1500):
            chance = random.Random(seed)
            old = some_book(chance, 6)
            new = grown(chance, old)
            laying = settle(old)[0]
            if laying is None:
                self.assertIsNone(settle(new)[0], (old, new))
                continue
            places = carried(old, new, laying)
            told = settle(new, places)[0]
            self.assertEqual(told, settle(new)[0], (old, new))
            if told is not None:
                self.assertTrue(all(one >= bound for one, bound in zip(told, places)))
            met[told is None] += 1
        self.assertGreater(min(met.values()), 100)

    def test_places_carried_may_be_any(self):
        for seed in range(100):
            chance = random.Random(seed)
            old = some_book(chance)
            new = grown(chance, old)
            at, many = growth(old, new)
            places = some_bounds(chance, old, 9)
            told = check_own(self, carried, old, new, places)
            self.assertEqual(told[:at] + told[at + many:], places)
            self.assertEqual(told[at:at + many], first_bounds(new)[:many])

    def test_of_equal_books_a_list_of_its_own(self):
        book = (FORM, plain("a", "b"))
        places = [(0, 0), (0, 1)]
        told = check_own(self, carried, book, (FORM, with_shifted(book[1], 0, 0)), places)
        self.assertEqual(told, places)


if __name__ == "__main__":
    unittest.main()
