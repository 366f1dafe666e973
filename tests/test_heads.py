"""Points 2 and 34: the numbers of heads."""

import itertools
import unittest

from helper import check_own
from trueleaf.heads import numbers_of


class Numbers(unittest.TestCase):
    def check(self, levels, *numbers):
        told = check_own(self, numbers_of, levels)
        self.assertEqual(told, list(numbers))
        self.assertIs(type(told), list)

    def test_no_heads(self):
        self.check([])

    def test_heads_of_one_level(self):
        self.check([1, 1, 1], "1", "2", "3")
        self.check([2, 2, 2], "0.1", "0.2", "0.3")
        self.check([3, 3, 3], "0.0.1", "0.0.2", "0.0.3")

    def test_each_level_below_the_one_ahead(self):
        self.check([1, 2, 3], "1", "1.1", "1.1.1")
        self.check([1, 2, 3, 3, 2, 3, 1, 2, 3], "1", "1.1", "1.1.1", "1.1.2", "1.2", "1.2.1", "2", "2.1", "2.1.1")

    def test_no_head_of_level_1_ahead(self):
        self.check([2], "0.1")
        self.check([3], "0.0.1")
        self.check([2, 3, 1], "0.1", "0.1.1", "1")
        self.check([3, 2, 3], "0.0.1", "0.1", "0.1.1")

    def test_a_level_that_is_left_out(self):
        self.check([1, 3, 3, 2, 3], "1", "1.0.1", "1.0.2", "1.1", "1.1.1")

    def test_a_level_1_behind_a_level_3(self):
        self.check([1, 2, 3, 1, 3, 2], "1", "1.1", "1.1.1", "2", "2.0.1", "2.1")

    def test_counters_of_several_figures(self):
        self.assertEqual(numbers_of([1] * 400), [str(k) for k in range(1, 401)])
        self.assertEqual(numbers_of([1] + [2] * 399)[-1], "1.399")
        self.assertEqual(numbers_of([1] * 9 + [2] * 10 + [3] * 11)[-1], "9.10.11")

    def test_all_rows_of_six_levels_against_a_count(self):
        for levels in itertools.product((1, 2, 3), repeat=6):
            expected = []
            for k, level in enumerate(levels):
                counted = []
                for one in range(1, level + 1):
                    # A counter counts the heads of its level behind the last one of a level above.
                    since = max([i + 1 for i in range(k + 1) if levels[i] < one], default=0)
                    counted.append(str(levels[since:k + 1].count(one)))
                expected.append(".".join(counted))
            self.assertEqual(numbers_of(list(levels)), expected, levels)


if __name__ == "__main__":
    unittest.main()
