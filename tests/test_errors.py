"""Point 2: the classes of refusals."""

import unittest

from trueleaf import errors

REFUSALS = (
    "BadRow", "NoPart", "Ring", "TooLong", "BadCall", "Deep", "NoShort", "BadForm", "BadWord",
    "BadPaper", "NoGrowth", "Twice", "NoFoot", "NoMark", "NoLaying", "BadName", "NoRow", "NothingDone",
)


def takes(taker, refusal):
    try:
        raise refusal("words")
    except taker:
        return True
    except Exception:
        return False


class Refusals(unittest.TestCase):
    def test_eighteen_and_their_base_are_all_that_is_there(self):
        classes = sorted(name for name, value in vars(errors).items() if isinstance(value, type))
        self.assertEqual(classes, sorted(REFUSALS + ("TrueleafError",)))
        self.assertEqual(len(REFUSALS), 18)

    def test_the_base_is_straight_under_valueerror(self):
        self.assertEqual(errors.TrueleafError.__bases__, (ValueError,))

    def test_each_is_straight_under_the_base(self):
        for name in REFUSALS:
            with self.subTest(name):
                self.assertEqual(getattr(errors, name).__bases__, (errors.TrueleafError,))

    def test_each_is_taken_by_the_base_and_by_valueerror(self):
        for name in REFUSALS:
            with self.subTest(name):
                self.assertTrue(takes(errors.TrueleafError, getattr(errors, name)))
                self.assertTrue(takes(ValueError, getattr(errors, name)))

    def test_each_is_taken_by_itself_and_by_none_of_the_others(self):
        for raised in REFUSALS:
            for taker in REFUSALS:
                with self.subTest(raised=raised, taker=taker):
                    taken = takes(getattr(errors, taker), getattr(errors, raised))
                    self.assertEqual(taken, raised == taker)

    def test_the_base_is_taken_by_none_of_them(self):
        for name in REFUSALS:
            with self.subTest(name):
                self.assertFalse(takes(getattr(errors, name), errors.TrueleafError))


if __name__ == "__main__":
    unittest.main()
