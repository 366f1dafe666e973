"""Points 17 and 18: places, leads, and the first places at which words may stand."""

import itertools
import unittest

from helper import check_own
from trueleaf.places import behind, first_from, later

FAR = 10 ** 60


def form_of(high, first):
    return (20, high, first, 60)


class Later(unittest.TestCase):
    def test_two_on_one_page(self):
        self.assertEqual(later((3, 1), (3, 2)), (3, 2))
        self.assertEqual(later((3, 2), (3, 1)), (3, 2))
        self.assertEqual(later((3, 10), (3, 9)), (3, 10))

    def test_two_on_two_pages(self):
        self.assertEqual(later((3, 5), (4, 0)), (4, 0))
        self.assertEqual(later((4, 0), (3, 5)), (4, 0))
        self.assertEqual(later((10, 0), (9, 59)), (10, 0))

    def test_the_same(self):
        self.assertEqual(later((0, 0), (0, 0)), (0, 0))
        self.assertEqual(later((7, 3), (7, 3)), (7, 3))

    def test_pages_of_60_figures(self):
        self.assertEqual(later((FAR, 0), (FAR - 1, 59)), (FAR, 0))
        self.assertEqual(later((FAR - 1, 59), (FAR, 0)), (FAR, 0))
        self.assertEqual(later((FAR, 3), (FAR, 4)), (FAR, 4))

    def test_a_place_is_a_tuple(self):
        self.assertIs(type(later((0, 1), (1, 0))), tuple)


class Behind(unittest.TestCase):
    def check(self, high, first, place, places):
        for lead, expected in enumerate(places):
            with self.subTest(high=high, first=first, place=place, lead=lead):
                told = behind(form_of(high, first), place, lead)
                self.assertEqual(told, expected)
                self.assertIs(type(told), tuple)

    def test_at_a_pages_top(self):
        self.check(5, 1, (2, 0), [(2, 0), (2, 1), (2, 2), (3, 0), (4, 0)])
        self.check(5, 0, (2, 0), [(2, 0), (2, 1), (2, 2), (3, 0), (3, 0)])

    def test_at_a_pages_last_rows(self):
        self.check(5, 1, (2, 2), [(2, 2), (2, 3), (2, 4), (3, 0), (4, 0)])
        self.check(5, 1, (2, 3), [(2, 3), (2, 4), (3, 0), (3, 0), (4, 0)])
        self.check(5, 1, (2, 4), [(2, 4), (3, 0), (3, 0), (3, 0), (4, 0)])
        self.check(60, 1, (2, 57), [(2, 57), (2, 58), (2, 59), (3, 0), (4, 0)])
        self.check(60, 1, (2, 58), [(2, 58), (2, 59), (3, 0), (3, 0), (4, 0)])
        self.check(60, 1, (2, 59), [(2, 59), (3, 0), (3, 0), (3, 0), (4, 0)])

    def test_high_1_and_2(self):
        self.check(1, 0, (0, 0), [(0, 0), (1, 0), (1, 0), (1, 0), (1, 0)])
        self.check(1, 1, (0, 0), [(0, 0), (1, 0), (1, 0), (1, 0), (2, 0)])
        self.check(2, 0, (0, 0), [(0, 0), (0, 1), (1, 0), (1, 0), (1, 0)])
        self.check(2, 0, (0, 1), [(0, 1), (1, 0), (1, 0), (1, 0), (1, 0)])

    def test_first_even_and_odd_on_pages_even_and_odd(self):
        self.check(3, 0, (0, 1), [(0, 1), (0, 2), (1, 0), (1, 0), (1, 0)])
        self.check(3, 0, (1, 1), [(1, 1), (1, 2), (2, 0), (2, 0), (3, 0)])
        self.check(3, 7, (0, 1), [(0, 1), (0, 2), (1, 0), (1, 0), (2, 0)])
        self.check(3, 7, (1, 1), [(1, 1), (1, 2), (2, 0), (2, 0), (2, 0)])

    def test_pages_and_a_first_of_60_figures(self):
        self.check(2, FAR, (FAR, 1), [(FAR, 1), (FAR + 1, 0), (FAR + 1, 0), (FAR + 1, 0), (FAR + 1, 0)])
        self.check(2, FAR - 1, (FAR, 1), [(FAR, 1), (FAR + 1, 0), (FAR + 1, 0), (FAR + 1, 0), (FAR + 2, 0)])
        self.check(2, FAR - 1, (FAR - 1, 0),
                   [(FAR - 1, 0), (FAR - 1, 1), (FAR, 0), (FAR, 0), (FAR, 0)])


class FirstFrom(unittest.TestCase):
    def test_leads_0_to_3_stand_anywhere(self):
        for lead, first, page, row in itertools.product(range(4), (0, 1), range(3), range(3)):
            self.assertEqual(first_from(form_of(3, first), (page, row), lead), (page, row))

    def test_lead_4_on_pages_with_odd_and_even_numbers(self):
        for first in (0, 8, FAR):
            self.assertEqual(first_from(form_of(3, first), (1, 2), 4), (1, 2))
            self.assertEqual(first_from(form_of(3, first), (0, 0), 4), (1, 0))
            self.assertEqual(first_from(form_of(3, first), (0, 2), 4), (1, 0))
            self.assertEqual(first_from(form_of(3, first), (FAR, 2), 4), (FAR + 1, 0))
        for first in (1, 9, FAR - 1):
            self.assertEqual(first_from(form_of(3, first), (0, 0), 4), (0, 0))
            self.assertEqual(first_from(form_of(3, first), (0, 2), 4), (0, 2))
            self.assertEqual(first_from(form_of(3, first), (1, 0), 4), (2, 0))
            self.assertEqual(first_from(form_of(3, first), (FAR, 1), 4), (FAR, 1))

    def test_high_1(self):
        self.assertEqual(first_from(form_of(1, 1), (0, 0), 4), (0, 0))
        self.assertEqual(first_from(form_of(1, 0), (0, 0), 4), (1, 0))


def may_stand(form, place, lead):
    return lead != 4 or (form[2] + place[0]) % 2 == 1


def let_behind(form, place, lead, other):
    """Whether the lead lets a word stand at the other place, told row by row of the whole."""
    if other < place:
        return False
    if lead in (3, 4):
        return other[0] > place[0] and may_stand(form, other, lead)
    if lead == 2:
        return other[0] > place[0] or other[1] - place[1] >= 2
    return lead == 0 or other > place


class AllSmallPlaces(unittest.TestCase):
    def test_against_a_look_at_every_place(self):
        for high, first, lead in itertools.product(range(1, 5), range(2), range(5)):
            form = form_of(high, first)
            every = list(itertools.product(range(6), range(high)))
            for place in itertools.product(range(3), range(high)):
                firsts = [other for other in every if let_behind(form, place, lead, other)]
                self.assertEqual(behind(form, place, lead), firsts[0], (form, place, lead))
                firsts = [other for other in every if other >= place and may_stand(form, other, lead)]
                self.assertEqual(first_from(form, place, lead), firsts[0], (form, place, lead))

    def test_a_later_place_leads_no_earlier(self):
        for high, first, lead in itertools.product(range(1, 4), range(2), range(5)):
            form = form_of(high, first)
            every = list(itertools.product(range(4), range(high)))
            for one, other in zip(every, every[1:]):
                self.assertLessEqual(behind(form, one, lead), behind(form, other, lead))
                self.assertLessEqual(first_from(form, one, lead), first_from(form, other, lead))

    def test_nothing_handed_in_is_changed(self):
        for lead in range(5):
            check_own(self, behind, form_of(3, 0), (0, 2), lead)
            check_own(self, first_from, form_of(3, 0), (0, 2), lead)
        check_own(self, later, (0, 2), (1, 0))


if __name__ == "__main__":
    unittest.main()
