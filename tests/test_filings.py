"""Points 2 and 40: what is to be exchanged between elder and newer pages, and pages so exchanged."""

import itertools
import unittest

from helper import check_own
from trueleaf.filings import filed, filings_between


def pages(*texts):
    """Pages numbered from 1, each of two rows, the first of them this text."""
    return [(number, [text, ""]) for number, text in enumerate(texts, 1)]


class Filings(unittest.TestCase):
    def check(self, old, new, *expected):
        told = check_own(self, filings_between, old, new)
        self.assertEqual(told, list(expected))
        self.assertIs(type(told), list)
        for one in told:
            self.assertIs(type(one), tuple)
        back = check_own(self, filed, old, told)
        self.assertEqual(back, new)
        self.assertIs(type(back), list)

    def test_the_same_pages(self):
        for texts in ((), ("a",), ("a", "b", "a")):
            self.check(pages(*texts), pages(*texts))

    def test_pages_that_differ_in_one_place(self):
        old = pages("a", "b", "c")
        for k in range(3):
            new = list(old)
            new[k] = (k + 1, ["x", ""])
            self.check(old, new, (k, new[k]))
            new[k] = (99, old[k][1])
            self.check(old, new, (k, new[k]))
            new[k] = (k + 1, [old[k][1][0], "y"])
            self.check(old, new, (k, new[k]))

    def test_fewer_pages(self):
        self.check(pages("a", "b", "c"), pages("a", "b"), (2, None))
        self.check(pages("a", "b", "c"), pages("a"), (1, None), (2, None))
        self.check(pages("a", "b", "c"), pages("x", "b"), (0, (1, ["x", ""])), (2, None))

    def test_more_pages(self):
        self.check(pages("a"), pages("a", "b", "c"), (1, (2, ["b", ""])), (2, (3, ["c", ""])))
        self.check(pages("a", "b"), pages("x", "b", "c"), (0, (1, ["x", ""])), (2, (3, ["c", ""])))

    def test_none(self):
        self.check([], pages("a", "b"), (0, (1, ["a", ""])), (1, (2, ["b", ""])))
        self.check(pages("a", "b"), [], (0, None), (1, None))
        self.check([], [])

    def test_pages_of_other_forms(self):
        self.check([(1, ["a"])], [(1, ["a", ""])], (0, (1, ["a", ""])))
        self.check([(0, ["a"]), (1, ["b"])], [(1, ["b"])], (0, (1, ["b"])), (1, None))
        far = 10 ** 60
        self.check([(far, ["a"])], [(far + 1, ["a"])], (0, (far + 1, ["a"])))

    def test_all_lists_of_up_to_three_pages(self):
        lists = [pages(*texts) for many in range(4) for texts in itertools.product("ab", repeat=many)]
        for old, new in itertools.product(lists, repeat=2):
            expected = []
            for k in range(3):
                if old[k:k + 1] != new[k:k + 1]:
                    expected.append((k, new[k] if k < len(new) else None))
            self.check(old, new, *expected)

    def test_pages_of_which_all_rows_are_one_list(self):
        rows = ["a", ""]
        old = [(1, rows), (2, rows)]
        told = filed(old, [])
        told[0][1].append("x")
        self.assertEqual(told[1], (2, ["a", ""]))
        self.assertEqual(rows, ["a", ""])
        told = filings_between([], old)
        told[0][1][1].append("x")
        self.assertEqual(told[1], (1, (2, ["a", ""])))
        self.assertEqual(rows, ["a", ""])


if __name__ == "__main__":
    unittest.main()
