"""Points 2, 17 and 23: forms and books, and what is refused of them."""

import unittest

from helper import check_own, check_refused, plain, scribble, word
from trueleaf.books import book_of, check_form
from trueleaf.errors import BadForm, BadWord, TooLong

FORM = (40, 20, 1, 10)
FAR = 10 ** 60
# Beyond what Python writes as figures without being asked to.
FARTHEST = 10 ** 5000
BOUNDS = ((1, 200), (1, 60), (0, FAR), (1, 60))


def form_with(at, number):
    form = list(FORM)
    form[at] = number
    return tuple(form)


class Forms(unittest.TestCase):
    def test_each_number_at_its_bounds(self):
        for at, (least, most) in enumerate(BOUNDS):
            for number in (least, least + 1, most - 1, most):
                with self.subTest(at=at, number=number):
                    self.assertIsNone(check_form(form_with(at, number)))
                    self.assertEqual(book_of(form_with(at, number), []), (form_with(at, number), []))

    def test_each_number_beyond_its_bounds(self):
        for at, (least, most) in enumerate(BOUNDS):
            for number in (least - 1, most + 1, least - 10, most + 10, -FAR, FAR + 1, -FARTHEST, FARTHEST):
                with self.subTest(at=at, number=len(bin(number))):
                    check_refused(self, BadForm, check_form, form_with(at, number))
                    check_refused(self, BadForm, book_of, form_with(at, number), [])

    def test_all_at_their_bounds(self):
        self.assertIsNone(check_form((1, 1, 0, 1)))
        self.assertIsNone(check_form((200, 60, FAR, 60)))

    def test_all_beyond(self):
        check_refused(self, BadForm, check_form, (0, 0, -1, 0))
        check_refused(self, BadForm, check_form, (201, 61, FAR + 1, 61))


class Books(unittest.TestCase):
    def check(self, words):
        self.assertEqual(check_own(self, book_of, FORM, words), (FORM, words))

    def refuse(self, words):
        check_refused(self, BadWord, book_of, FORM, words)

    def test_the_book_is_a_tuple_of_form_and_words(self):
        words = [word(1, True, ("page", 1), [("row", 0), ("text", "a")]), word()]
        book = book_of(FORM, words)
        self.assertEqual(book, (FORM, words))
        self.assertEqual([type(book), type(book[0]), type(book[1])], [tuple, tuple, list])
        self.assertEqual([type(one) for one in book[1]], [tuple, tuple])
        self.assertEqual([type(one[3]) for one in book[1]], [list, list])

    def test_no_words(self):
        self.check([])

    def test_400_and_401_words(self):
        self.check(plain("x") * 400)
        check_refused(self, TooLong, book_of, FORM, plain("x") * 401)
        check_refused(self, TooLong, book_of, FORM, plain("x") * 5000)

    def test_leads(self):
        for lead in range(5):
            self.check([word(lead)])
            self.check([word(), word(lead)])
        for lead in (-1, 5, -FAR, FAR, FARTHEST, -FARTHEST):
            with self.subTest(len(bin(lead))):
                self.refuse([word(lead)])
                self.refuse([word(), word(), word(lead)])

    def test_kept(self):
        self.check([word(kept=True), word(kept=False), word(kept=True)])

    def test_texts(self):
        for text in ("a", "x" * 59, "x" * 60, "!", "~", "[", "$1", "0"):
            self.check([word(saying=("text", text))])
            self.check([word(foot=[("text", text)])])

    def test_texts_that_are_none(self):
        blanks = ["x" * k + " " + "x" * (4 - k) for k in range(5)]
        blanks += ["x" * k + " " + "x" * (59 - k) for k in (0, 1, 30, 59)]
        for text in ["", " ", "  ", "x" * 61, "x" * 62, "x" * 10000, " " * 61] + blanks:
            with self.subTest(text):
                self.refuse([word(saying=("text", text))])
                self.refuse([word(foot=[("text", text)])])
                self.refuse([word(foot=[("text", "x"), ("text", text), ("text", "y")])])
                self.refuse([word(), word(saying=("text", text))])

    def test_numbers_of_words(self):
        for kind in ("page", "row"):
            for k in range(3):
                self.check([word(saying=(kind, k)), word(), word()])
                self.check([word(), word(), word(foot=[(kind, k)])])
            self.check([word(saying=(kind, 0))])
            self.check(plain("x") * 399 + [word(saying=(kind, 399), foot=[(kind, 399)])])

    def test_numbers_that_no_word_has(self):
        for kind in ("page", "row"):
            for k in (-1, -2, 3, 4, 400, -FAR, FAR, -FARTHEST, FARTHEST):
                with self.subTest(kind=kind, k=len(bin(k))):
                    self.refuse([word(saying=(kind, k)), word(), word()])
                    self.refuse([word(), word(), word(saying=(kind, k))])
                    self.refuse([word(foot=[(kind, k)]), word(), word()])
                    self.refuse([word(), word(), word(foot=[("text", "x"), (kind, 1), (kind, k)])])
            self.refuse([word(saying=(kind, 1))])
            self.refuse(plain("x") * 399 + [word(saying=(kind, 400))])

    def test_feet_of_40_and_41_sayings(self):
        self.check([word(foot=[("text", "x")] * 40)])
        self.check([word(), word(foot=[("page", 0)] * 39)])
        self.refuse([word(foot=[("text", "x")] * 41)])
        self.refuse([word(), word(foot=[("row", 1)] * 41)])
        self.refuse([word(foot=[("text", "x")] * 5000)])

    def test_the_last_saying_of_a_full_foot(self):
        self.refuse([word(foot=[("text", "x")] * 39 + [("text", "")])])
        self.refuse([word(foot=[("text", "x")] * 39 + [("page", 1)])])

    def test_two_faults_at_once(self):
        bad_form = form_with(0, 0)
        bad_words = [word(lead=5)]
        check_refused(self, BadForm, book_of, bad_form, plain("x") * 401)
        check_refused(self, BadForm, book_of, bad_form, bad_words)
        check_refused(self, BadForm, book_of, bad_form, bad_words * 401)
        check_refused(self, BadForm, book_of, form_with(3, 61), bad_words)
        for bad in (word(lead=-1), word(saying=("text", "")), word(foot=[("page", -1)]), word(foot=[("row", 0)] * 41)):
            check_refused(self, TooLong, book_of, FORM, [bad] * 401)
            check_refused(self, TooLong, book_of, FORM, [bad] + plain("x") * 400)
            check_refused(self, BadWord, book_of, FORM, plain("x") * 399 + [bad])
        self.refuse([word(lead=5, saying=("text", ""), foot=[("page", 9)] * 41)])
        self.refuse([word(saying=("page", 7)), word(lead=5)])


class Own(unittest.TestCase):
    def test_what_is_told_is_the_askers_own(self):
        check_own(self, book_of, FORM, [word(foot=[("text", "a")]), word(foot=[("page", 0)]), word()])
        check_own(self, check_form, FORM)

    def test_feet_that_were_one_list_are_several(self):
        foot = [("text", "a"), ("page", 1)]
        words = [(0, False, ("text", "x"), foot), (0, False, ("text", "y"), foot)]
        book = check_own(self, book_of, FORM, words)
        book[1][0][3].append(("text", "b"))
        self.assertEqual(book[1][1][3], [("text", "a"), ("page", 1)])
        self.assertEqual(foot, [("text", "a"), ("page", 1)])

    def test_changing_what_was_handed_in_changes_no_book(self):
        words = [word(foot=[("text", "a")]), word()]
        book = book_of(FORM, words)
        scribble(words)
        self.assertEqual(book, (FORM, [word(foot=[("text", "a")]), word()]))


if __name__ == "__main__":
    unittest.main()
