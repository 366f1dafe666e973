"""Points 1, 2, 3, 38 and 39: the pages of a book, and a part of a shelf told in pages."""

import itertools
import random
import unittest

from helper import check_own, check_refused, plain, some_book, tall, word
from trueleaf.errors import (BadCall, BadRow, BadWord, Deep, NoFoot, NoLaying, NoMark, NoPart, NoShort, Ring, TooLong,
                             TrueleafError, Twice)
from trueleaf.pages import pages_of, tell_pages
from trueleaf.parts import joined
from trueleaf.setting import set_words
from trueleaf.settle import settle

FAR = 10 ** 60


class Checked(unittest.TestCase):
    def look_at(self, pages):
        self.assertIs(type(pages), list)
        for page in pages:
            self.assertIs(type(page), tuple)
            self.assertEqual(len(page), 2)
            self.assertIs(type(page[1]), list)


class PagesOf(Checked):
    def check(self, form, words, places, *pages):
        told = check_own(self, pages_of, (form, words), places)
        self.assertEqual(told, [(number, list(rows)) for number, rows in pages])
        self.look_at(told)

    def test_a_book_without_words(self):
        self.check((5, 3, 1, 2), [], [])

    def test_rows_of_words(self):
        self.check((5, 3, 1, 2), plain("a"), [(0, 0)], (1, ("a", "", "")))
        places = [(0, 0), (0, 0), (0, 1), (0, 1)]
        self.check((5, 3, 1, 2), plain("ab", "cd", "e", "f"), places, (1, ("ab cd", "e f", "")))

    def test_empty_rows_between(self):
        self.check((5, 4, 7, 2), plain("a", "b"), [(0, 1), (0, 3)], (7, ("", "a", "", "b")))

    def test_several_pages(self):
        self.check((5, 2, 0, 9), plain("a", "b", "c"), [(0, 0), (1, 1), (2, 0)],
                   (0, ("a", "")), (1, ("", "b")), (2, ("c", "")))

    def test_pages_without_words(self):
        self.check((5, 2, 1, 9), plain("a", "b"), [(0, 0), (3, 0)], (1, ("a", "")), (2, ("", "")), (3, ("", "")),
                   (4, ("b", "")))
        self.check((5, 1, 0, 9), [word(4)], [(1, 0)], (0, ("",)), (1, ("x",)))
        self.check((5, 1, 1, 9), [word(), word(4)], [(0, 0), (2, 0)], (1, ("x",)), (2, ("",)), (3, ("x",)))

    def test_what_words_say_in_this_laying(self):
        words = [word(saying=("page", 2)), word(saying=("row", 2)), word(saying=("row", 0)), word(saying=("page", 0))]
        self.check((5, 3, 9, 9), words, [(0, 0), (0, 0), (1, 1), (1, 1)], (9, ("10 5", "", "")), (10, ("", "1 9", "")))
        self.check((5, 3, 9, 9), words, [(0, 2), (1, 0), (2, 2), (2, 2)], (9, ("", "", "11")), (10, ("9", "", "")),
                   (11, ("", "", "3 9")))

    def test_a_first_of_60_figures(self):
        for first in (FAR - 1, FAR):
            self.check((61, 1, first, 9), [word(saying=("page", 1)), word(saying=("page", 0))], [(0, 0), (1, 0)],
                       (first, (str(first + 1),)), (first + 1, (str(first),)))

    def test_feet_are_the_last_rows(self):
        foot = [("text", "ab"), ("text", "cd"), ("text", "ef")]
        self.check((5, 4, 1, 9), [word(foot=foot)], [(0, 0)], (1, ("x", "", "ab cd", "ef")))
        self.check((5, 4, 1, 9), [word(foot=foot)], [(0, 1)], (1, ("", "x", "ab cd", "ef")))

    def test_feet_of_several_words_of_a_page(self):
        one, two = [("text", "a"), ("text", "b")], [("text", "c")]
        words = [word(foot=one), word(), word(foot=two), word(foot=one), word(foot=two)]
        self.check((5, 5, 1, 9), words, [(0, 0), (0, 0), (0, 1), (0, 1), (1, 0)],
                   (1, ("x x", "x x", "a b", "c", "a b")), (2, ("x", "", "", "", "c")))

    def test_feet_that_point(self):
        foot = [("page", 1), ("row", 0), ("row", 1), ("page", 0)]
        self.check((7, 4, 98, 9), [word(foot=foot), word()], [(0, 1), (2, 3)],
                   (98, ("", "x", "100 2", "12 98")), (99, ("",) * 4), (100, ("", "", "", "x")))

    def test_a_page_that_is_filled_by_its_feet(self):
        self.check((5, 3, 1, 9), [word(foot=tall(2))], [(0, 0)], (1, ("x", "fffff", "fffff")))

    def test_of_the_largest_form(self):
        words = plain(*["x" * 60] * 400)
        laying = settle(((200, 3, 1, 60), words))[0]
        pages = check_own(self, pages_of, ((200, 3, 1, 60), words), laying)
        self.assertEqual(len(pages), 45)
        self.assertEqual(pages[0], (1, [" ".join(["x" * 60] * 3)] * 3))
        self.assertEqual(pages[44], (45, [" ".join(["x" * 60] * 3), "x" * 60, ""]))

    def test_small_books_read_row_by_row(self):
        """Every true laying that is told: each word is read at its place, each foot at the page's end."""
        looked = 0
        for seed in range(1500):
            book = some_book(random.Random(seed), 6)
            laying = settle(book)[0]
            if laying:
                looked += 1
                self.read(book, laying, check_own(self, pages_of, book, laying))
        self.assertGreater(looked, 300)

    def read(self, book, laying, pages):
        (wide, high, first, most), words = book

        def text(saying):
            page, row = laying[saying[1]] if saying[0] != "text" else (0, 0)
            return {"text": str(saying[1]), "page": str(first + page), "row": str(page * high + row + 1)}[saying[0]]

        self.assertEqual([page[0] for page in pages], [first + k for k in range(laying[-1][0] + 1)])
        for number, (told, rows) in enumerate(pages):
            self.assertEqual(len(rows), high)
            self.assertTrue(all(len(row) <= wide for row in rows))
            here = [k for k, place in enumerate(laying) if place[0] == number]
            last = max([laying[k][1] for k in here], default=-1)
            for row in range(last + 1):
                self.assertEqual(rows[row], " ".join(text(words[k][2]) for k in here if laying[k][1] == row))
            feet = [text(saying) for k in here for saying in words[k][3]]
            self.assertEqual(" ".join(rows[last + 1:]).split(), feet)
            behind = [row != "" for row in rows[last + 1:]]
            self.assertEqual(behind, sorted(behind), "an empty row stands behind one of a foot")


class TellPages(Checked):
    FORM = (12, 6, 1, 4)

    def check(self, parts, *pages):
        told = check_own(self, tell_pages, parts, "main", self.FORM)
        self.assertEqual(told, [(number, list(rows)) for number, rows in pages])
        self.look_at(told)

    def refuse(self, refusal, parts, name="main"):
        check_refused(self, refusal, tell_pages, parts, name, self.FORM)

    def test_parts_brought_and_shorts_put_out(self):
        parts = {"main": ".use shorts\n= Title #here\n[twice see ] &here\n.use end\n.use end", "end": "the end",
                 "shorts": ".let twice 1 $1 $1", "other": ".bad"}
        self.check(parts, (1, ("1 Title", "see see 1", "the end the", "end", "", "")))

    def test_a_text_with_all_there_is(self):
        parts = {"main": ".list\n.page\n= #a One\nsee @b on &b ~f\n.foot f row ^b\n.odd\n== #b Two\n&a"}
        self.check(parts, (1, ("1 One 2", "1.1 Two 3", "", "", "", "")),
                   (2, ("1 One", "see 1.1 on 3", "(1)", "", "", "(1) row 13")),
                   (3, ("1.1 Two", "2", "", "", "", "")))

    def test_without_words(self):
        for text in ("", "\n\n", ".page\n.list", ".let a 0 x\n.foot b x"):
            self.check({"main": text})

    def test_another_part_than_main(self):
        self.assertEqual(tell_pages({"sub": "a", "main": ".bad"}, "sub", self.FORM), [(1, ["a", "", "", "", "", ""])])

    def test_no_laying(self):
        self.refuse(NoLaying, {"main": "x" * 13})
        self.refuse(NoLaying, {"main": ".page\n.page\na\n.page\nb\n.page\nc\n.page\nd\n.page\ne"})
        pages = [(k, (one, "", "", "", "", "")) for k, one in enumerate("abcd", 1)]
        self.check({"main": "a\n.page\nb\n.page\nc\n.page\nd"}, *pages)
        self.refuse(NoLaying, {"main": "= a b c d e f g h i j k l m n o p q r s t u v w x y z 1 2 3 4 5 6 7 8 9 10 11"})
        self.refuse(NoLaying, {"main": ".foot f a b c d e f g h i j k l m n o p q r s t u v w x y z 1 2 3 4 5 6\n~f"})

    def test_each_refusal(self):
        for refusal, text in (
                (BadRow, ".use"), (Ring, ".use main"), (NoPart, ".use none"), (TooLong, "\n" * 400), (BadRow, ".bad"),
                (Twice, ".let a 0\n.let a 0"), (Deep, "[a " * 21), (BadCall, "[a"), (NoShort, "[a ]"),
                (TooLong, ".foot f" + " x" * 40), (BadWord, ".foot f #a"), (Twice, "#a x #a y"), (NoFoot, "~f"),
                (TooLong, "\n".join(["a " * 100] * 5)), (NoMark, "&a"), (NoLaying, "x" * 13)):
            self.refuse(refusal, {"main": text})
        self.refuse(NoPart, {}, "main")
        self.refuse(NoPart, {"sub": ""}, "main")

    def test_the_order_of_work(self):
        """A refusal of earlier work, told behind one of later work in the text, comes first."""
        works = [
            [(BadRow, ".use"), (Ring, ".use main"), (NoPart, ".use none")],
            [(TooLong, ".use long")],
            [(BadRow, ".bad"), (Twice, ".let s 0"), (BadCall, "[s"), (NoShort, "[none ]"), (BadWord, ".foot g #a")],
            [(Twice, "#a #a x"), (NoFoot, "~none")],
            [(NoMark, "&none")],
            [(NoLaying, "y" * 13)]]
        for one, other in itertools.combinations(range(len(works)), 2):
            for (refusal, row), (later, another) in itertools.product(works[one], works[other]):
                for rows in ([row, another], [another, row]):
                    text = "\n".join([".let s 0 x"] + rows)
                    self.refuse(refusal, {"main": text, "long": "\n" * 400})


def some_text(chance):
    """The rows of a part with marks, heads, lists, feet and shorts; most of them are not refused."""
    names = ["ma", "mb", "mc", "md"]
    rows = [".let s 1 ( $1 )", ".foot f see &ma or ^mb", ".foot g @mc"]
    pool = ["a", "bb", "ccc", "dddd", "&ma", "&mb", "&mc", "&md", "^ma", "^mb", "^mc", "^md", "@ma", "@md", "[s &mb ]",
            "~f", "~g", "[s [s x ] ]", "!~f"]
    for name in names:
        rows.append(" ".join(chance.choice(pool) for each in range(chance.randint(0, 12))))
        rows.append(" ".join(["#" + name] + [chance.choice(pool) for each in range(chance.randint(1, 6))]))
        rows.append(chance.choice(["", "", ".page", ".odd", ".list", "= h", "== h &ma", "=== h ^mc"]))
    return rows + ["end"]


class TheWhole(unittest.TestCase):
    """Point 3, from text to text: pages are read row by row, with nothing asked of the program but the words set."""

    FORMS = ((14, 8, 95, 60), (20, 5, 1, 60), (9, 12, 7, 60), (40, 30, 0, 9), (11, 4, FAR, 60))

    def test_the_pages_tell_the_truth_of_themselves(self):
        looked = 0
        for seed in range(400):
            chance = random.Random(seed)
            form = chance.choice(self.FORMS)
            rows = some_text(chance)
            at = chance.randrange(len(rows))
            parts = {"main": "\n".join(rows[:at] + [".use rest"]), "rest": "\n".join(rows[at:])}
            self.assertEqual([row for part, k, row in joined(parts, "main")], rows)
            try:
                pages = tell_pages(parts, "main", form)
            except TrueleafError as refusal:
                self.assertIs(type(refusal), NoLaying, rows)
                continue
            looked += 1
            self.read(set_words(rows, form)[0], pages)
        self.assertGreater(looked, 250)

    def read(self, book, pages):
        wide, high, first, most = book[0]
        self.assertLessEqual(len(pages), most)
        for k, (number, rows) in enumerate(pages):
            self.assertEqual((number, len(rows)), (first + k, high))
            self.assertTrue(all(len(row) <= wide and row == row.strip() for row in rows))
        places, told = self.read_back(book[1], pages)
        for saying, text in told:
            if saying[0] == "text":
                self.assertEqual(text, saying[1])
            else:
                page, row = places[saying[1]]
                self.assertEqual(text, str(first + page) if saying[0] == "page" else str(page * high + row + 1))

    def read_back(self, words, pages):
        """The place where each word is read, and pairs of each saying, of words and of feet, and what is read there.

        The texts of a page are its words, then their feet: that tells how many words it has.
        """
        left, places, told = list(words), [], []
        for k, (number, rows) in enumerate(pages):
            read = [((k, row), text) for row, line in enumerate(rows) for text in line.split(" ") if text]
            here = []
            while left and len(here) + sum(len(one[3]) for one in here) < len(read):
                here.append(left.pop(0))
            sayings = [one[2] for one in here] + [saying for one in here for saying in one[3]]
            self.assertEqual(len(sayings), len(read), pages)
            places.extend(place for place, text in read[:len(here)])
            told.extend((saying, text) for saying, (place, text) in zip(sayings, read))
        self.assertEqual(left, [])
        return places, told


if __name__ == "__main__":
    unittest.main()
