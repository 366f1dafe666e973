"""Points 2, 3 and 24 to 27: bounds, the five reasons, raises, papers."""

import itertools
import random
import unittest

from helper import check_own, check_refused, first_of_all, plain, some_book, some_bounds, tall, true_layings, word
from trueleaf.bounds import first_bounds, raised, reach, walked
from trueleaf.errors import BadPaper
from trueleaf.truths import first_fault

FAR = 10 ** 60
KINDS = ("behind", "wide", "high", "kept", "never")


class FirstBounds(unittest.TestCase):
    def test_each_word_at_the_first_place(self):
        for many in (0, 1, 2, 400):
            book = ((5, 5, 1, 5), plain("x") * many)
            self.assertEqual(check_own(self, first_bounds, book), [(0, 0)] * many)


class Reasons(unittest.TestCase):
    def check(self, form, words, low, raises):
        """Just these reasons, told as a dict from (kind, i, j) to places, reach anything, for all j around."""
        book = (form, words)
        for kind, i in itertools.product(KINDS, range(len(words))):
            for j in range(-3, len(words) + 3):
                with self.subTest(words=words, low=low, kind=kind, i=i, j=j):
                    told = check_own(self, reach, book, low, kind, i, j)
                    self.assertEqual(told, raises.get((kind, i, j)))
                    self.assertIn(type(told), (tuple, type(None)))


class Behind(Reasons):
    def test_the_first_word(self):
        for lead in range(4):
            self.check((5, 3, 0, 9), [word(lead)], [(0, 0)], {})
            self.check((5, 3, 0, 9), [word(lead)], [(4, 2)], {})

    def test_the_first_word_of_lead_4(self):
        self.check((5, 3, 0, 9), [word(4)], [(0, 0)], {("behind", 0, -1): (1, 0)})
        self.check((5, 3, 0, 9), [word(4)], [(0, 2)], {("behind", 0, -1): (1, 0)})
        self.check((5, 3, 1, 9), [word(4)], [(0, 2)], {})
        self.check((5, 3, 1, 9), [word(4)], [(3, 0)], {("behind", 0, -1): (4, 0)})
        self.check((5, 3, FAR, 9), [word(4)], [(FAR, 1)], {("behind", 0, -1): (FAR + 1, 0)})

    def test_each_lead_behind_a_word(self):
        for lead, place in enumerate(((1, 0), (1, 1), (1, 2), (2, 0), (2, 0))):
            for low in ((0, 0), (0, 2)):
                self.check((5, 3, 1, 9), [word(), word(lead)], [(1, 0), low], {("behind", 1, 0): place})
            self.check((5, 3, 1, 9), [word(), word(lead)], [(1, 0), place], {})
            self.check((5, 3, 1, 9), [word(), word(lead)], [(1, 0), (6, 1)], {})

    def test_at_a_pages_last_rows(self):
        for lead, place in enumerate(((1, 2), (2, 0), (2, 0), (2, 0), (2, 0))):
            self.check((5, 3, 1, 9), [word(), word(lead)], [(1, 2), (0, 0)], {("behind", 1, 0): place})
        for lead, place in enumerate(((1, 1), (1, 2), (2, 0), (2, 0), (3, 0))):
            self.check((5, 3, 0, 9), [word(), word(lead)], [(1, 1), (0, 0)], {("behind", 1, 0): place})

    def test_lead_4_from_its_own_bound(self):
        self.check((5, 3, 1, 9), [word(), word(4)], [(0, 0), (3, 1)], {("behind", 1, 0): (4, 0)})
        self.check((5, 3, 1, 9), [word(), word(4)], [(0, 0), (4, 1)], {})

    def test_the_last_of_several(self):
        words = [word(), word(), word(1)]
        self.check((5, 3, 1, 9), words, [(0, 0), (0, 0), (0, 0)], {("behind", 2, 1): (0, 1)})
        self.check((5, 3, 1, 9), words, [(0, 0), (2, 2), (3, 0)], {})
        self.check((5, 3, 1, 9), words, [(2, 0), (0, 0), (3, 0)], {("behind", 1, 0): (2, 0)})

    def test_pages_beyond_the_last(self):
        self.check((5, 3, 1, 2), [word(), word(3)], [(7, 1), (7, 2)], {("behind", 1, 0): (8, 0)})
        self.check((5, 3, 1, 2), [word(), word(1)], [(FAR, 2), (5, 0)], {("behind", 1, 0): (FAR + 1, 0)})


class Wide(Reasons):
    def test_two_words(self):
        self.check((5, 3, 1, 9), plain("12", "45"), [(0, 0), (0, 0)], {})
        self.check((5, 3, 1, 9), plain("12", "456"), [(0, 0), (0, 0)], {("wide", 1, 0): (0, 1)})
        self.check((5, 3, 1, 9), plain("12", "456"), [(0, 2), (0, 2)], {("wide", 1, 0): (1, 0)})
        self.check((5, 3, 1, 9), plain("12", "456"), [(0, 0), (0, 1)], {})
        self.check((5, 3, 1, 9), plain("12", "456"), [(0, 0), (4, 0)], {})

    def test_several_words(self):
        low = [(0, 0)] * 4
        expected = {("wide", 3, 0): (0, 1)}
        self.check((6, 3, 1, 9), plain("1", "3", "5", "7"), low, expected)
        expected = {("wide", i, j): (0, 1) for i in range(4) for j in range(i - 1)}
        self.check((4, 3, 1, 9), plain("1", "3", "5", "7"), low, expected)

    def test_each_word_tells_its_own_next_row(self):
        low = [(0, 1), (0, 0), (0, 0)]
        words = plain("1234", "1234", "1234")
        self.check((5, 3, 1, 9), words, low, {
            ("behind", 1, 0): (0, 1), ("wide", 1, 0): (0, 2),
            ("wide", 2, 0): (0, 2), ("wide", 2, 1): (0, 1)})

    def test_widths_are_those_of_the_bounds(self):
        words = [word(saying=("page", 2)), word(), word()]
        self.check((3, 1, 8, 9), words, [(0, 0), (0, 0), (1, 0)], {})
        self.check((3, 1, 8, 9), words, [(0, 0), (0, 0), (2, 0)], {("wide", 1, 0): (1, 0)})

    def test_pages_beyond_the_last(self):
        self.check((5, 1, 1, 2), plain("123", "123"), [(FAR, 0), (FAR, 0)], {("wide", 1, 0): (FAR + 1, 0)})
        self.check((5, 1, 1, 2), plain("123", "123"), [(7, 0), (7, 0)], {("wide", 1, 0): (8, 0)})

    def test_a_word_by_itself_is_not_asked(self):
        self.assertIsNone(reach(((5, 3, 1, 2), plain("1234567")), [(0, 0)], "wide", 0, 0))


class High(Reasons):
    def test_one_word(self):
        self.check((5, 3, 1, 9), [word(foot=tall(2))], [(0, 0)], {})
        self.check((5, 3, 1, 9), [word(foot=tall(2))], [(0, 1)], {("high", 0, 0): (1, 0)})
        self.check((5, 3, 1, 9), [word(foot=tall(1))], [(4, 2)], {("high", 0, 0): (5, 0)})
        self.check((5, 3, 1, 9), [word(foot=tall(1))], [(FAR, 2)], {("high", 0, 0): (FAR + 1, 0)})

    def test_two_words(self):
        words = [word(foot=tall(1)), word(foot=tall(1))]
        self.check((5, 3, 1, 9), words, [(0, 0), (0, 0)], {})
        self.check((5, 3, 1, 9), words, [(0, 0), (0, 1)], {("high", 1, 0): (1, 0)})
        self.check((5, 3, 1, 9), words, [(0, 0), (0, 2)], {("high", 1, 0): (1, 0), ("high", 1, 1): (1, 0)})
        self.check((5, 3, 1, 9), words, [(0, 0), (1, 1)], {})

    def test_a_word_without_a_foot(self):
        words = [word(foot=tall(1)), word()]
        self.check((5, 3, 1, 9), words, [(0, 0), (0, 1)], {})
        self.check((5, 3, 1, 9), words, [(0, 0), (0, 2)], {("high", 1, 0): (1, 0)})
        self.check((5, 3, 1, 9), words, [(0, 0), (1, 2)], {})

    def test_a_word_that_is_bound_to_a_later_page(self):
        words = [word(foot=tall(1)), word()]
        self.check((5, 3, 1, 9), words, [(2, 0), (1, 2)], {("high", 1, 0): (2, 0), ("behind", 1, 0): (2, 0)})

    def test_the_feet_between_count_too(self):
        words = [word(), word(foot=tall(1)), word()]
        low = [(1, 0), (0, 0), (1, 2)]
        self.check((5, 3, 1, 9), words, low, {("behind", 1, 0): (1, 0), ("high", 2, 0): (2, 0)})
        low = [(0, 0), (1, 0), (1, 2)]
        self.check((5, 3, 1, 9), words, low, {("high", 2, 1): (2, 0)})

    def test_heights_are_those_of_the_bounds(self):
        words = [word(foot=[("text", "ab"), ("page", 1)]), word()]
        self.check((4, 3, 8, 9), words, [(0, 1), (1, 0)], {})
        self.check((4, 3, 8, 9), words, [(0, 1), (2, 0)], {("high", 0, 0): (1, 0)})


class Kept(Reasons):
    def test_a_word_ahead_of_a_kept_one(self):
        words = [word(), word(kept=True)]
        self.check((5, 3, 1, 9), words, [(0, 0), (0, 2)], {})
        self.check((5, 3, 1, 9), words, [(0, 2), (1, 0)], {("kept", 0, 1): (1, 0)})
        self.check((5, 3, 1, 9), words, [(0, 2), (3, 2)], {("kept", 0, 1): (3, 0)})
        self.check((5, 3, 1, 9), words, [(3, 0), (3, 2)], {})
        self.check((5, 3, 1, 9), words, [(3, 1), (3, 2)], {})

    def test_a_word_that_is_kept_itself_and_the_last_word(self):
        self.check((5, 3, 1, 9), [word(kept=True), word()], [(0, 2), (3, 2)], {})
        self.check((5, 3, 1, 9), [word(kept=True)], [(3, 2)], {})

    def test_among_several(self):
        words = [word(), word(), word(kept=True), word(kept=True)]
        low = [(0, 0), (0, 0), (0, 0), (2, 1)]
        self.check((9, 3, 1, 9), words, low, {("kept", 2, 3): (2, 0)})

    def test_pages_beyond_the_last(self):
        words = [word(), word(kept=True)]
        self.check((5, 3, 1, 2), words, [(5, 2), (FAR, 1)], {("kept", 0, 1): (FAR, 0)})


class Never(Reasons):
    def test_a_word_that_is_too_wide(self):
        self.check((5, 3, 1, 9), plain("12345"), [(0, 0)], {})
        self.check((5, 3, 1, 9), plain("123456"), [(0, 0)], {("never", 0, 0): (9, 0)})
        self.check((5, 3, 1, 9), plain("x", "123456"), [(0, 0), (8, 2)], {("never", 1, 1): (9, 0)})

    def test_a_foot_that_is_too_high(self):
        self.check((5, 3, 1, 9), [word(foot=tall(2))], [(0, 0)], {})
        self.check((5, 3, 1, 9), [word(foot=tall(3))], [(0, 0)], {("never", 0, 0): (9, 0), ("high", 0, 0): (1, 0)})
        self.check((5, 3, 1, 9), [word(foot=tall(1, 6))], [(0, 0)], {("never", 0, 0): (9, 0), ("high", 0, 0): (1, 0)})
        self.check((5, 1, 1, 9), [word(foot=tall(1))], [(0, 0)], {("never", 0, 0): (9, 0), ("high", 0, 0): (1, 0)})

    def test_bounds_beyond_already(self):
        for low in ((9, 0), (9, 1), (FAR, 0)):
            self.check((5, 3, 1, 9), plain("123456"), [low], {})

    def test_widths_are_those_of_the_bounds(self):
        words = [word(saying=("page", 1)), word()]
        self.check((1, 3, 8, 9), words, [(0, 0), (1, 0)], {})
        self.check((1, 3, 8, 9), words, [(0, 0), (2, 0)], {("never", 0, 0): (9, 0)})


class NothingReached(unittest.TestCase):
    WORDS = [word(saying=("text", "123")), word(1, True, ("text", "123456"), tall(3)), word(4, True)]
    BOOK = ((5, 3, 0, 9), WORDS)
    LOW = [(0, 1), (0, 0), (1, 2)]

    def test_every_kind_reaches_something_here(self):
        found = {kind for kind in KINDS for i in range(3) for j in range(-1, 4)
                 if reach(self.BOOK, self.LOW, kind, i, j) is not None}
        self.assertEqual(found, set(KINDS))

    def test_second_words_that_do_not_fit_or_are_none(self):
        fitting = {"behind": lambda i: (i - 1,), "wide": range, "high": lambda i: range(i + 1),
                   "kept": lambda i: (i + 1,), "never": lambda i: (i,)}
        for kind, i in itertools.product(KINDS, range(3)):
            for j in list(range(-8, 9)) + [400, FAR, -FAR, 10 ** 5000, -10 ** 5000]:
                if j not in fitting[kind](i):
                    self.assertIsNone(reach(self.BOOK, self.LOW, kind, i, j), (kind, i, j.bit_length()))

    def test_kinds_that_are_none(self):
        for kind in ("", "Behind", "wider", "page", "lead", "row", "text", "never ", " kept", "behind\n"):
            for i, j in itertools.product(range(3), range(-1, 4)):
                self.assertIsNone(reach(self.BOOK, self.LOW, kind, i, j))


class Papers(unittest.TestCase):
    BOOK = ((5, 2, 1, 4), [word(saying=("text", "123")), word(saying=("text", "123")), word(1), word(1, True)])
    LOW = [(0, 0)] * 4
    PAPER = [
        ("wide", 1, 0, (0, 1)), ("behind", 2, 1, (1, 0)), ("behind", 3, 2, (1, 1))]

    def test_an_empty_paper(self):
        self.assertEqual(check_own(self, walked, self.BOOK, self.LOW, []), self.LOW)
        self.assertEqual(check_own(self, walked, self.BOOK, [(3, 1), (0, 0), (9, 0), (0, 1)], []),
                         [(3, 1), (0, 0), (9, 0), (0, 1)])
        self.assertEqual(check_own(self, walked, ((5, 5, 1, 1), []), [], []), [])

    def test_papers_of_one_and_of_several_raises(self):
        self.assertEqual(check_own(self, walked, self.BOOK, self.LOW, self.PAPER[:1]), [(0, 0), (0, 1), (0, 0), (0, 0)])
        self.assertEqual(check_own(self, walked, self.BOOK, self.LOW, self.PAPER), [(0, 0), (0, 1), (1, 0), (1, 1)])

    def test_several_raises_of_one_word(self):
        paper = [("behind", 2, 1, (0, 1)), ("wide", 1, 0, (0, 1)), ("behind", 2, 1, (1, 0))]
        self.assertEqual(walked(self.BOOK, self.LOW, paper), [(0, 0), (0, 1), (1, 0), (0, 0)])

    def test_from_bounds_on_later_places(self):
        paper = [("kept", 2, 3, (2, 0)), ("wide", 1, 0, (0, 1))]
        self.assertEqual(walked(self.BOOK, [(0, 0), (0, 0), (1, 0), (2, 1)], paper), [(0, 0), (0, 1), (2, 0), (2, 1)])

    def test_beyond_the_last_page(self):
        book = ((5, 2, 1, 4), plain("123456"))
        self.assertEqual(walked(book, [(0, 0)], [("never", 0, 0, (4, 0))]), [(4, 0)])

    def refuse(self, *paper):
        check_refused(self, BadPaper, walked, self.BOOK, self.LOW, list(paper))

    def test_another_place(self):
        for place in ((0, 0), (1, 0), (0, 2), (9, 9), (-1, 0)):
            self.refuse(("wide", 1, 0, place))
            self.refuse(self.PAPER[0], ("wide", 1, 0, place))

    def test_another_kind(self):
        for kind in ("behind", "high", "kept", "never", "", "Wide", "page"):
            self.refuse((kind, 1, 0, (0, 1)))

    def test_another_second_word(self):
        for j in (-1, 1, 2, 3, 4, FAR, -FAR, 10 ** 5000):
            self.refuse(("wide", 1, j, (0, 1)))

    def test_a_word_that_the_book_does_not_have(self):
        for i in (-4, -3, -2, -1, 4, 5, 400, FAR, -FAR, 10 ** 5000, -10 ** 5000):
            for kind, j in itertools.product(KINDS, (i - 1, 0, i, i + 1)):
                self.refuse((kind, i, j, (0, 1)))
                self.refuse((kind, i, j, (0, 0)))
        check_refused(self, BadPaper, walked, ((5, 5, 1, 1), []), [], [("behind", 0, -1, (0, 0))])

    def test_a_word_counted_from_the_end(self):
        book = ((5, 2, 0, 4), [word(kept=True), word(4, saying=("text", "123456"), foot=tall(1))])
        low = [(2, 0), (0, 1)]
        for found in [one for i in range(2) for one in all_reaches(book, low, i)] + [("kept", 1, 2, (2, 0))]:
            kind, i, j, place = found
            for jump in (0, 2):
                check_refused(self, BadPaper, walked, book, low, [(kind, i - 2, j - jump, place)])

    def test_a_place_that_is_the_bound_already(self):
        self.refuse(("behind", 1, 0, (0, 0)))
        self.refuse(self.PAPER[0], self.PAPER[0])
        self.refuse(*self.PAPER, self.PAPER[-1])

    def test_where_nothing_is_reached(self):
        self.refuse(("behind", 0, -1, (0, 1)))
        self.refuse(("kept", 2, 3, (1, 0)))
        self.refuse(("behind", 0, -1, None))

    def test_a_raise_that_follows_only_behind_one_that_lacks(self):
        self.refuse(self.PAPER[1])
        self.refuse(self.PAPER[2], self.PAPER[0], self.PAPER[1])
        self.refuse(self.PAPER[0], self.PAPER[2], self.PAPER[1])

    def test_the_last_raise_alone_is_wrong(self):
        self.refuse(*self.PAPER, ("behind", 3, 2, (1, 1)))

    def test_bounds_handed_in_are_not_changed_nor_kept(self):
        low = list(self.LOW)
        told = walked(self.BOOK, low, self.PAPER)
        self.assertEqual(low, self.LOW)
        low[0] = (7, 0)
        self.assertEqual(told[0], (0, 0))
        paper = self.PAPER + [("wide", 1, 0, (9, 9))]
        check_refused(self, BadPaper, walked, self.BOOK, list(self.LOW), paper)


def all_reaches(book, low, i):
    """Every reason that reaches anything for word i, with some j around the words."""
    found = []
    for kind, j in itertools.product(KINDS, range(-2, len(book[1]) + 2)):
        place = reach(book, low, kind, i, j)
        if place is not None:
            found.append((kind, i, j, place))
    return found


def by_the_words(book, low, kind, i, j):
    """What a reason reaches, by the words of point 24, with no measure but signs counted."""
    (wide, high, first, most), words = book
    lead = words[i][0]
    page, row = low[i]

    def text(saying):
        if saying[0] == "text":
            return saying[1]
        p, r = low[saying[1]]
        return str(first + p) if saying[0] == "page" else str(p * high + r + 1)

    def foot(number):
        sayings = [text(saying) for saying in words[number][3]]
        rows = []
        for one in sayings:
            if rows and len(rows[-1] + " " + one) <= wide:
                rows[-1] += " " + one
            else:
                rows.append(one)
        return high if len(rows) > high or any(len(one) > wide for one in sayings) else len(rows)

    def places_from(place):
        return ((p, r) for p in itertools.count(place[0]) for r in range(high) if (p, r) >= place)

    def lets(place):
        if lead == 4 and (first + place[0]) % 2 == 0:
            return False
        if i == 0:
            return True
        p, r = low[j]
        if lead >= 3:
            return place[0] > p
        return place >= (p, r) and (place[0] > p or place[1] >= r + lead)

    place = None
    if kind == "behind" and j == i - 1:
        place = next(one for one in places_from(low[i]) if lets(one))
    if kind == "wide" and 0 <= j < i and len(" ".join(text(one[2]) for one in words[j:i + 1])) > wide:
        place = next(one for one in places_from(low[j]) if one > low[j])
    if kind == "high" and 0 <= j <= i and low[j][0] >= page:
        if row + 1 + sum(foot(k) for k in range(j, i + 1)) > high:
            place = (page + 1, 0)
    if kind == "kept" and j == i + 1 and j < len(words) and words[j][1]:
        place = (low[j][0], 0)
    if kind == "never" and j == i and (len(text(words[i][2])) > wide or foot(i) + 1 > high):
        place = (most, 0)
    return place if place is not None and place > low[i] else None


def settled(book, low, chance):
    """The bounds behind raises in an order by chance, and the paper of them; the bounds are None once one is beyond."""
    low = list(low)
    paper = []
    while all(place[0] < book[0][3] for place in low):
        raises = [one for i in range(len(low)) for one in all_reaches(book, low, i)]
        if not raises:
            return low, paper
        paper.append(chance.choice(raises))
        low[paper[-1][1]] = paper[-1][3]
    return None, paper


class SmallBooks(unittest.TestCase):
    """Books and bounds by a chance that is the same each time."""

    def books(self, many, pages=4):
        for seed in range(many):
            chance = random.Random(seed)
            book = some_book(chance)
            yield chance, book, some_bounds(chance, book, pages)

    def test_reach_against_the_words_of_the_document(self):
        met = set()
        for chance, book, low in self.books(1500):
            for kind, i in itertools.product(KINDS, range(len(low))):
                for j in range(-2, len(low) + 2):
                    told = reach(book, low, kind, i, j)
                    if told != by_the_words(book, low, kind, i, j):
                        self.fail(f"{book} {low} {kind} {i} {j}: {told}")
                    met.add((kind, told is None))
        self.assertEqual(len(met), 10)

    def test_raised_is_the_latest_place_of_all_reasons(self):
        for chance, book, low in self.books(1500):
            for i in range(len(low)):
                places = [one[3] for one in all_reaches(book, low, i)]
                told = raised(book, low, i)
                if told != max(places + [low[i]]):
                    self.fail(f"{book} {low} {i}: {told}")

    def test_bounds_of_which_nothing_is_reached_are_a_true_laying_and_others_are_not(self):
        true = 0
        for chance, book, low in self.books(1500, 2):
            bounds = [low, first_bounds(book)]
            bounds.append(settled(book, low, chance)[0] or low)
            for one in bounds:
                if all(place[0] < book[0][3] for place in one):
                    reached = [found for i in range(len(one)) for found in all_reaches(book, one, i)]
                    fault = first_fault(book, one)
                    if (reached == []) != (fault is None):
                        self.fail(f"{book} {one}: {reached}, {fault}")
                    true += fault is None
        self.assertGreater(true, 300)

    def test_no_reason_goes_too_far_and_every_order_ends_at_the_first_true_laying(self):
        ends = set()
        for chance, book, low in self.books(250, 2):
            if chance.random() < 0.5:
                low = first_bounds(book)
            true = list(true_layings(book, low))
            first = first_of_all(true)
            for order in range(3):
                laying, paper = settled(book, low, chance)
                self.assertEqual(laying, first, (book, low))
                ends.add(laying is None)
                behind = walked(book, low, paper)
                self.assertEqual(behind if laying is not None else None, laying)
                if laying is None:
                    self.assertTrue(any(place[0] >= book[0][3] for place in behind))
                for many in range(len(paper)):
                    bounds = walked(book, low, paper[:many])
                    for places in true:
                        self.assertTrue(all(place >= one for place, one in zip(places, bounds)), (book, low, paper))
        self.assertEqual(ends, {True, False})

    def test_words_raised_one_by_one_in_two_orders_end_at_the_same_bounds(self):
        for chance, book, low in self.books(300, 2):
            low = first_bounds(book)
            orders = [list(range(len(low))), list(reversed(range(len(low))))]
            ends = [raised_to_the_end(book, low, order) for order in orders]
            self.assertEqual(ends[0], ends[1], book)
            self.assertEqual(ends[0], settled(book, low, chance)[0])


def raised_to_the_end(book, low, order):
    low = list(low)
    changed = True
    while changed:
        changed = False
        for i in order:
            place = raised(book, low, i)
            changed = changed or place != low[i]
            low[i] = place
            if place[0] >= book[0][3]:
                return None
    return low


class Raised(unittest.TestCase):
    def test_where_nothing_is_reached(self):
        book = ((5, 3, 1, 9), [word(), word(1)])
        self.assertEqual(check_own(self, raised, book, [(0, 0), (0, 1)], 0), (0, 0))
        self.assertEqual(check_own(self, raised, book, [(0, 0), (0, 1)], 1), (0, 1))
        self.assertIs(type(raised(book, [(0, 0), (0, 1)], 1)), tuple)

    def test_the_latest_of_several(self):
        words = [word(saying=("text", "123")), word(1, saying=("text", "456"), foot=tall(1)), word(kept=True)]
        book = ((5, 3, 1, 9), words)
        self.assertEqual(raised(book, [(0, 0), (0, 0), (0, 0)], 1), (0, 1))
        self.assertEqual(raised(book, [(0, 0), (0, 2), (0, 0)], 1), (1, 0))
        self.assertEqual(raised(book, [(0, 0), (0, 2), (4, 1)], 1), (4, 0))
        self.assertEqual(raised(book, [(5, 1), (0, 2), (4, 1)], 1), (5, 2))
        book = ((2, 3, 1, 9), words)
        self.assertEqual(raised(book, [(5, 1), (0, 2), (4, 1)], 1), (9, 0))

    def test_every_second_word_is_asked(self):
        words = plain("12", "12", "12", "12", "12")
        for j in range(4):
            low = [(0, 0)] * 5
            low[j] = (3, 1)
            self.assertEqual(raised(((5, 3, 1, 9), words), low, 4), (3, 2) if j < 3 else (3, 1))

    def test_a_book_of_400_words_with_feet(self):
        words = [word(saying=("row", 399 - k), foot=[("page", k), ("text", "ab")]) for k in range(400)]
        book = ((20, 30, 1, 60), words)
        low = [(k // 8, k * 3 - k // 8 * 24) for k in range(400)]
        for i in (0, 1, 200, 398, 399):
            places = [reach(book, low, kind, i, j) for kind in KINDS for j in range(max(i - 12, -1), i + 2)]
            self.assertEqual(raised(book, low, i), max([low[i]] + [place for place in places if place is not None]))

    def test_pages_and_a_first_of_60_figures(self):
        book = ((60, 3, FAR - 1, 9), [word(saying=("page", 0)), word(4)])
        self.assertEqual(raised(book, [(0, 0), (0, 0)], 0), (0, 0))
        self.assertEqual(raised(book, [(1, 0), (0, 0)], 0), (9, 0))
        self.assertEqual(raised(book, [(FAR, 0), (0, 0)], 1), (FAR + 2, 0))


if __name__ == "__main__":
    unittest.main()
