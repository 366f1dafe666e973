"""Points 2 and 32 to 37: rows read and set as the words of a book."""

import itertools
import random
import unittest

from helper import check_own, check_refused
from trueleaf.books import book_of
from trueleaf.errors import BadCall, BadRow, BadWord, Deep, NoFoot, NoMark, NoShort, TooLong, Twice
from trueleaf.setting import set_words

FORM = (30, 10, 1, 20)


def word(saying, lead=0, kept=False, foot=()):
    return (lead, kept, own(saying), [own(one) for one in foot])


def own(saying):
    return ("text", saying) if isinstance(saying, str) else saying


def head(number, *title, lead=2, kept=False):
    return [word(number, lead, kept)] + [word(one, 0, True) for one in title]


def run(lead, *sayings, kept=False):
    """Words of which the first has this lead and this keep, the others none."""
    return [word(saying, 0 if k else lead, kept and not k) for k, saying in enumerate(sayings)]


def page(k):
    return ("page", k)


class Checked(unittest.TestCase):
    def check(self, rows, words, marks=None, heads=()):
        told = check_own(self, set_words, rows, FORM)
        self.assertEqual(told, ((FORM, words), marks or {}, list(heads)), rows)
        self.assertIs(type(told), tuple)
        self.assertEqual(book_of(*told[0]), told[0])
        for one in told[0][1]:
            self.assertIs(type(one[0]), int)
            self.assertIs(type(one[1]), bool)

    def refuse(self, refusal, *rows):
        check_refused(self, refusal, set_words, list(rows), FORM)


class Plain(Checked):
    def test_no_words(self):
        self.check([], [])
        self.check(["", "  ", ".page", ".odd", ".list", ".let a 0 x", ".foot b x"], [])

    def test_paragraphs(self):
        self.check(["a b", "c"], run(2, "a", "b", "c"))
        self.check(["a", "", "b c", "", "", "d"], run(2, "a") + run(2, "b", "c") + run(2, "d"))

    def test_let_and_foot_rows_in_the_midst_of_a_paragraph(self):
        self.check(["a", ".let s 0 x", "[s ]", ".foot f y", "b"], run(2, "a", "x", "b"))

    def test_words_that_are_put_out(self):
        self.check([".let twice 1 $1 $1", "[twice [twice a ] ] $1"], run(2, "a", "a", "a", "a", "$1"))
        self.check([".let s 0 #m ~f !&m &m", ".foot f x", "[s ]"],
                   [word("(1)", 2, foot=("(1)", "x")), word("&m"), word(page(0))], {"m": 0})

    def test_the_form_is_that_handed_in(self):
        for form in ((1, 1, 0, 1), (200, 60, 10 ** 60, 60)):
            self.assertEqual(set_words(["abc"], form), ((form, run(2, "abc")), {}, []))


class Marks(Checked):
    def test_ahead_of_words(self):
        self.check(["a #m b &m ^m"], run(2, "a", "b", page(1), ("row", 1)), {"m": 1})
        self.check(["#m a"], run(2, "a"), {"m": 0})

    def test_pointing_to_later_words(self):
        self.check(["&m ^m @m", "", "#m b"], run(2, page(3), ("row", 3), "0") + run(2, "b"), {"m": 3})

    def test_at_the_end_of_a_row(self):
        self.check(["a #m", "b"], run(2, "a", "b"), {"m": 1})
        self.check(["a #m", "", "b"], run(2, "a") + run(2, "b"), {"m": 1})
        self.check(["a #m", ".let s 0 x", "", ".page", "[s ]"], run(2, "a") + run(3, "x"), {"m": 1})

    def test_used_in_the_next_row(self):
        self.check(["a #m", "&m b"], run(2, "a", page(1), "b"), {"m": 1})
        self.check(["a #m", "@m"], run(2, "a", "0"), {"m": 1})

    def test_several_ahead_of_one_word(self):
        self.check(["#one #two", "#three a &one &two &three"], run(2, "a", page(0), page(0), page(0)),
                   {"one": 0, "two": 0, "three": 0})

    def test_ahead_of_a_head(self):
        self.check(["a #m", "= b c", "&m @m"], run(2, "a") + head("1", "b", "c") + run(1, page(1), "1", kept=True),
                   {"m": 1}, [("1", 1)])

    def test_ahead_of_a_list(self):
        self.check(["#m", ".list", "= b", "&m @m"],
                   run(2, "1", "b", page(3)) + head("1", "b") + run(1, page(0), "0", kept=True), {"m": 0}, [("1", 3)])

    def test_ahead_of_a_list_without_heads(self):
        self.check(["#m", ".list", "a"], run(2, "a"), {"m": 0})

    def test_ahead_of_a_foot(self):
        self.check([".foot f x", "a #m ~f &m"], run(2, "a") + [word("(1)", foot=("(1)", "x")), word(page(1))], {"m": 1})

    def test_ahead_of_a_word_that_points_to_it(self):
        self.check(["#m &m"], run(2, page(0)), {"m": 0})

    def test_in_titles(self):
        self.check(["= #m a #n", "b &m &n"], head("1", "a") + run(1, "b", page(1), page(2), kept=True),
                   {"m": 1, "n": 2}, [("1", 0)])
        self.check(["= a #m", "== b &m"], head("1", "a") + head("1.1", "b", page(2), kept=True), {"m": 2},
                   [("1", 0), ("1.1", 2)])

    def test_only_in_a_paragraph_without_words(self):
        self.check(["#m", "", "#n", "", "a"], run(2, "a"), {"m": 0, "n": 0})


class Numbers(Checked):
    def test_ahead_of_at_and_behind_heads(self):
        rows = ["#a x #b", "= #c y", "#d z #e", "== t", "#f u", "@a @b @c @d @e @f"]
        self.check(rows, run(2, "x") + head("1", "y") + run(1, "z", kept=True) + head("1.1", "t")
                   + run(1, "u", "0", "1", "1", "1", "1.1", "1.1", kept=True),
                   {"a": 0, "b": 1, "c": 2, "d": 3, "e": 4, "f": 6}, [("1", 1), ("1.1", 4)])

    def test_told_ahead_of_the_heads(self):
        self.check(["@a @b", "= #a x", "", "#b y"],
                   run(2, "1", "1") + head("1", "x") + run(1, "y", kept=True),
                   {"a": 3, "b": 4}, [("1", 2)])

    def test_a_mark_in_a_list_is_behind_no_head(self):
        self.check(["#a", ".list", "@a", "= x", "#b", ".list", "@b"],
                   run(2, "1", "x", page(4)) + run(2, "0") + head("1", "x") + run(2, "1", "x", page(4), kept=True)
                   + run(2, "1"), {"a": 0, "b": 6}, [("1", 4)])

    def test_heads_of_each_level(self):
        self.check(["== a", "=", "=== b", "= c"],
                   head("0.1", "a") + head("1", kept=True) + head("1.0.1", "b", kept=True) + head("2", "c", kept=True),
                   {}, [("0.1", 0), ("1", 2), ("1.0.1", 3), ("2", 5)])


class Lists(Checked):
    def test_ahead_of_the_heads(self):
        self.check([".list", "= a b", "== c"],
                   run(2, "1", "a", "b", page(7)) + run(1, "1.1", "c", page(10))
                   + head("1", "a", "b") + head("1.1", "c", kept=True), {}, [("1", 7), ("1.1", 10)])

    def test_behind_the_heads(self):
        self.check(["= a", "x", ".list"], head("1", "a") + run(1, "x", kept=True) + run(2, "1", "a", page(0)), {},
                   [("1", 0)])

    def test_between_the_heads(self):
        self.check(["= a", ".list", "= b"],
                   head("1", "a") + run(2, "1", "a", page(0), kept=True) + run(1, "2", "b", page(8)) + head("2", "b"),
                   {}, [("1", 0), ("2", 8)])

    def test_two_lists(self):
        entry = run(2, "1", "a", page(6))
        self.check([".list", ".list", "= a"], entry + entry + head("1", "a"), {}, [("1", 6)])

    def test_no_heads(self):
        self.check(["a", ".list", "b"], run(2, "a") + run(2, "b"))

    def test_a_head_without_a_title(self):
        self.check([".list", "=", "=="], run(2, "1", page(4)) + run(1, "1.1", page(5)) + head("1")
                   + head("1.1", kept=True), {}, [("1", 4), ("1.1", 5)])

    def test_titles_with_marks_pages_rows_and_numbers(self):
        self.check(["= #m a &m ^n @n", "#n b", ".list"],
                   head("1", "a", page(1), ("row", 5), "1") + run(1, "b", kept=True)
                   + run(2, "1", "a", page(1), ("row", 5), "1", page(0)), {"m": 1, "n": 5}, [("1", 0)])

    def test_a_paragraph_behind_a_list(self):
        self.check(["= a", ".list", "b"], head("1", "a") + run(2, "1", "a", page(0), kept=True) + run(2, "b"), {},
                   [("1", 0)])


class Feet(Checked):
    def test_each_has_its_number(self):
        self.check([".foot f x y", ".foot g z", "a ~g ~f"],
                   run(2, "a") + [word("(1)", foot=("(1)", "z")), word("(2)", foot=("(2)", "x", "y"))])

    def test_used_twice(self):
        self.check([".foot f x", "~f a ~f"],
                   [word("(1)", 2, foot=("(1)", "x")), word("a"), word("(2)", foot=("(2)", "x"))])

    def test_told_behind_their_use(self):
        self.check(["a ~f", "", ".foot f x"], run(2, "a") + [word("(1)", foot=("(1)", "x"))])

    def test_never_used(self):
        self.check([".foot f x &m", "#m a"], run(2, "a"), {"m": 0})

    def test_without_words(self):
        self.check([".foot f", "a ~f"], run(2, "a") + [word("(1)", foot=("(1)",))])

    def test_with_pointings(self):
        self.check([".foot f @m &m ^m !&m", "~f", "= a", "#m b ~f"],
                   [word("(1)", 2, foot=("(1)", "1", page(3), ("row", 3), "&m"))] + head("1", "a")
                   + run(1, "b", kept=True) + [word("(2)", foot=("(2)", "1", page(3), ("row", 3), "&m"))], {"m": 3},
                   [("1", 1)])

    def test_39_words(self):
        self.check([".foot f" + " x" * 39, "~f"], [word("(1)", 2, foot=["(1)"] + ["x"] * 39)])
        self.refuse(TooLong, ".foot f" + " x" * 40, "~f")

    def test_a_name_that_a_short_has(self):
        self.check([".let f 0 x", ".foot f [f ] y", "[f ] ~f"], run(2, "x") + [word("(1)", foot=("(1)", "x", "y"))])

    def test_many(self):
        told = set_words([".foot f x"] + ["~f " * 100] * 4, FORM)[0][1]
        self.assertEqual(told[399], word("(400)", foot=("(400)", "x")))


class Leads(Checked):
    """The leads and keeps of words, told as pairs."""

    def leads(self, rows, *expected):
        book = check_own(self, set_words, rows, FORM)[0]
        self.assertEqual([one[0] for one in book[1]], [int(str(one)[0]) for one in expected], rows)
        self.assertEqual([one[1] for one in book[1]], [str(one)[1:] == "k" for one in expected], rows)

    def test_a_paragraph_behind_each_kind_of_row(self):
        self.leads(["a"], 2)
        self.leads(["a", "", "b"], 2, 2)
        self.leads([".page", "a"], 3)
        self.leads([".odd", "a"], 4)
        self.leads(["= t", "a"], 2, "0k", "1k")
        self.leads(["= t", "", "a"], 2, "0k", "1k")
        self.leads([".list", "a", "= t"], 2, 0, 0, 2, 2, "0k")
        self.leads([".list", "a"], 2)
        self.leads([".let s 0 x", "a"], 2)
        self.leads([".foot s x", "a b"], 2, 0)
        self.leads(["= t", ".let s 0 x", ".foot s x", "a b"], 2, "0k", "1k", 0)

    def test_a_head_behind_each_kind_of_row(self):
        self.leads(["a", "= t"], 2, 2, "0k")
        self.leads([".page", "= t"], 3, "0k")
        self.leads([".odd", "= t"], 4, "0k")
        self.leads(["=", "= t"], 2, "2k", "0k")
        self.leads(["= t u", "== v"], 2, "0k", "0k", "2k", "0k")
        self.leads([".list", "="], 2, 0, 2)

    def test_a_list_behind_each_kind_of_row(self):
        self.leads(["a", ".list", "=", "="], 2, 2, 0, 1, 0, 2, "2k")
        self.leads([".page", ".list", "=", "="], 3, 0, 1, 0, 2, "2k")
        self.leads([".odd", ".list", "=", "="], 4, 0, 1, 0, 2, "2k")
        self.leads(["=", ".list"], 2, "2k", 0)
        self.leads(["=", "=", ".list"], 2, "2k", "2k", 0, 1, 0)
        self.leads([".list", ".list", "="], 2, 0, 2, 0, 2)

    def test_page_and_odd_together(self):
        for rows in ([".page", ".odd"], [".odd", ".page"], [".odd", ".odd"], [".page", "", ".odd", ".page"],
                     [".odd", "[none ]", ".page"], [".odd", "#m", "", ".page"]):
            self.leads([".let none 0"] + rows + ["a b"], 4, 0)
            self.leads(["a", ".let none 0"] + rows + ["= b"], 2, 4, "0k")
        self.leads([".page", ".page", "a"], 3)
        self.leads([".page", ".list", ".odd", ".list", "a"], 4)

    def test_page_and_odd_at_the_end(self):
        self.leads(["a", ".page"], 2)
        self.leads(["a", ".odd", ".page"], 2)
        self.leads([".odd"])

    def test_page_ahead_of_a_row_without_words(self):
        self.leads([".let none 0", ".page", "[none ]", "a"], 3)
        self.leads([".let none 0", ".page", "[none ]", "", "a"], 3)
        self.leads([".page", "", "", "a"], 3)
        self.leads([".page", ".list", "a"], 3)
        self.leads([".page", "#m", "", "a"], 3)

    def test_it_counts_for_the_next_word_alone(self):
        self.leads([".page", "a b", "", "c"], 3, 0, 2)
        self.leads([".odd", "a", ".page", "b"], 4, 3)
        self.leads([".odd", "= t", "a"], 4, "0k", "1k")

    def test_a_paragraph_behind_a_head_without_words_between(self):
        self.leads([".let none 0", "= t", "[none ]", "", "a", "", "b"], 2, "0k", "1k", 2)
        self.leads(["= t", "#m", "", "a"], 2, "0k", "1k")
        self.leads(["= t #m", "a"], 2, "0k", "1k")

    def test_a_paragraph_behind_a_head_with_words_between(self):
        self.leads(["= t", "a", "", "b"], 2, "0k", "1k", 2)
        self.leads(["= t", ".list", "b"], 2, "0k", "2k", 0, 0, 2)

    def test_the_first_word_of_a_paragraph_may_stand_in_its_second_row(self):
        self.leads([".let none 0", "[none ]", "a", "b"], 2, 0)
        self.leads(["#m", "a", ".let s 0 x", "b"], 2, 0)

    def test_a_first_word_of_each_kind(self):
        self.leads([".foot f x", "~f a"], 2, 0)
        self.leads(["&m #m ^m @m"], 2, 0, 0)
        self.leads(["= t", "&m", "#m a"], 2, "0k", "1k", 0)

    def test_keeps_over_a_page(self):
        self.leads(["= t", ".page", "a b"], 2, "0k", 3, 0)
        self.leads(["= t", ".odd", "= u"], 2, "0k", 4, "0k")
        self.leads(["= t", ".odd", ".list"], 2, "0k", 4, 0, 0)
        self.leads(["= t", ".page", "a", "", "b"], 2, "0k", 3, 2)

    def test_keeps_at_two_heads(self):
        self.leads(["=", "==", "==="], 2, "2k", "2k")
        self.leads(["= t", "== u", "a"], 2, "0k", "2k", "0k", "1k")

    def test_nothing_behind_a_head(self):
        self.leads(["= t u"], 2, "0k", "0k")
        self.leads(["="], 2)

    def test_a_head_without_a_title(self):
        self.leads(["=", "a b"], 2, "1k", 0)
        self.leads([".page", "=", "a"], 3, "1k")

    def test_a_title_that_comes_to_no_words(self):
        self.leads([".let none 0", "= [none ] #m", "a b"], 2, "1k", 0)


class Refused(Checked):
    def test_each_by_itself(self):
        self.refuse(Twice, "#m a #m b")
        self.refuse(Twice, "#m #m a")
        self.refuse(Twice, "#m a", "= #m b")
        self.refuse(Twice, "= #m a", "= #m b")
        self.refuse(Twice, ".let s 0 #m a", "[s ] [s ]")
        self.refuse(NoFoot, "a ~f")
        self.refuse(NoFoot, ".let f 0 x", "#f ~f")
        self.refuse(NoMark, "a #m")
        self.refuse(NoMark, "a &m")
        self.refuse(NoMark, "a ^m")
        self.refuse(NoMark, "a @m")
        self.refuse(NoMark, "= a &m")
        self.refuse(NoMark, ".foot m x", ".let n 0 x", "= m", "~m &m")

    def test_a_mark_is_set_once_though_its_title_is_listed(self):
        self.check([".list", "= #m a"], run(2, "1", "a", page(3)) + head("1", "a"), {"m": 4}, [("1", 3)])

    def test_marks_at_the_end(self):
        self.refuse(NoMark, "#m")
        self.refuse(NoMark, "a", "", "#m", "")
        self.refuse(NoMark, "= a #m")
        self.refuse(NoMark, "a #m", ".list", ".page")
        self.refuse(NoMark, "a &m #m", ".foot f x")

    def test_pointings_in_feet(self):
        for sign in "@&^":
            self.refuse(NoMark, f".foot f x {sign}m", "~f")
            self.refuse(NoMark, f".foot f x {sign}m", "a")
            self.refuse(NoMark, f".foot f {sign}m")
            self.refuse(NoMark, "#n a", f".foot g {sign}n", f".foot f {sign}m x")

    def test_400_and_401_words(self):
        self.assertEqual(len(set_words(["a " * 200, "b " * 200], FORM)[0][1]), 400)
        self.refuse(TooLong, "a " * 200, "b " * 200, "c")
        self.refuse(TooLong, "a " * 200, "b " * 200, "", "= c")
        self.refuse(TooLong, "a " * 200, "b " * 199, "= c")
        self.refuse(TooLong, "=", "a " * 200, "b " * 199, ".list")
        self.assertEqual(len(set_words(["=", "a " * 200, "b " * 197, ".list"], FORM)[0][1]), 400)
        self.refuse(TooLong, ".foot f", "a " * 200, "b " * 200, "~f")

    def test_words_of_feet_and_marks_are_not_counted(self):
        rows = [".foot f" + " x" * 39] + ["~f " * 100] * 4
        self.assertEqual(len(set_words(rows, FORM)[0][1]), 400)
        rows = ["a " * 200, "b " * 199] + [f"#m{k}" for k in range(50)] + ["c"]
        self.assertEqual(set_words(rows, FORM)[1], {f"m{k}": 399 for k in range(50)})

    def test_more_heads_than_a_list_may_have_entries(self):
        self.refuse(TooLong, ".list", *["="] * 134)
        self.assertEqual(len(set_words([".list"] + ["="] * 133, FORM)[0][1]), 399)

    def test_two_at_once(self):
        full = ["a " * 200, "b " * 200]
        for refusal, rows in (
                (Twice, ["#m a #m ~f"]), (NoFoot, ["#m a ~f #m b"]), (Twice, ["#m &x #m"]), (NoFoot, ["&x ~f"]),
                (Twice, full + ["#m #m c"]), (NoFoot, full + ["~f"]), (TooLong, full + ["c ~f"]),
                (TooLong, full + ["c #m #m"]), (TooLong, full + ["#m"] + ["c"]), (TooLong, full + ["&x"]),
                (NoMark, full + ["#m"]), (TooLong, full + ["#m", ".foot f &x", "= c"]),
                (Twice, ["#m #m"]), (NoFoot, ["~f #m"]), (NoFoot, ["a #m ~f"]), (NoFoot, ["= #m x &n", "~f", "= #m y"]),
                (TooLong, ["=", *full, "= #a #a"]), (Twice, ["= #m", "#m", ".list", *full])):
            self.refuse(refusal, *rows)

    def test_those_of_rows_come_ahead(self):
        full = ["a " * 200, "b " * 200]
        for row, refusal in ((".x", BadRow), (".foot f x", Twice), ("[s", BadCall), ("[s " * 21, Deep),
                             ("[none ]", NoShort), (".foot g" + " x" * 40, TooLong), ("= ~f", BadWord)):
            for rows in (["#m #m a"], ["~none"], full + ["c"], ["&m"], ["#m"]):
                self.refuse(refusal, ".foot f", *rows, row)

    def test_each_of_rows_by_itself(self):
        for refusal, rows in (
                (BadRow, [".use a"]), (BadRow, [".let"]), (BadRow, [".let a x"]), (BadRow, [".foot"]),
                (BadRow, [".page a"]), (BadRow, [".odd ."]), (BadRow, [".list 1"]), (BadRow, ["a", " .b"]),
                (Twice, [".let a 0", ".let a 0"]), (Twice, [".foot a", ".foot a"]),
                (BadCall, ["[a"]), (BadCall, [".let a 1 $2"]), (BadCall, [".let a 1 x"]), (Deep, ["[a " * 21]),
                (NoShort, ["[a ]"]), (NoShort, ["[a ]", ".let a 0 x"]), (BadCall, [".let a 1 $1", "[a ]"]),
                (TooLong, [".let a 0" + " x" * 100, "[a ] " * 4 + "x"]), (TooLong, [".foot a" + " x" * 40]),
                (BadWord, ["x" * 61]), (BadWord, ["!" + "x" * 61]), (BadWord, [".foot f #m"]),
                (BadWord, [".foot f x", "= ~f"]), (BadWord, [".foot f x", ".foot g ~f"])):
            self.refuse(refusal, *rows)
            for behind in (["a"], ["#m #m"], [".x"]):
                self.refuse(refusal, *rows, *behind)
        self.check(["x" * 60 + " !" + "x" * 60], run(2, "x" * 60, "x" * 60))


def by_the_words(rows):
    """Points 34 to 36 a second way, of rows without shorts: the words told one by one, each asked of the whole text.

    Each item is (what sets it, what it is, the number of its thing); what sets it is "head", "list" or "words"; each
    entry of a list is a thing by itself.
    """
    feet = {row.split()[1]: row.split()[2:] for row in rows if row.startswith(".foot")}
    titles = [row.split() for row in rows if row.startswith("=")]
    counters = {0: 0}
    numbers = []
    for title in titles:
        level = len(title[0])
        counters = {k: counters.get(k, 0) + (k == level) if k <= level else 0 for k in (1, 2, 3)}
        numbers.append(".".join(str(counters[k]) for k in range(1, level + 1)))
    items, leaps, paragraph, seen = [], [], 0, 0
    for number, row in enumerate(rows):
        words = row.split()
        if not words or words[0] in (".page", ".odd", ".list") or words[0].startswith("="):
            paragraph = number
        if row in (".page", ".odd"):
            leaps.append((len([one for one in items if one[1][0] != "#"]), row))
        elif row == ".list":
            for k, title in enumerate(titles):
                entry = [numbers[k]] + [one for one in title[1:] if one[0] != "#"] + [("entry", k)]
                items.extend(("list", one, (number, k)) for one in entry)
        elif row.startswith("="):
            items.extend(("head", one, number) for one in [("number", seen)] + words[1:])
            seen += 1
        elif not row.startswith("."):
            items.extend(("words", one, paragraph) for one in words)
    marks, told = {}, []
    for item in items:
        if item[1][0] == "#":
            marks[item[1][1:]] = len(told)
        else:
            told.append(item)
    at_heads = [k for k, item in enumerate(told) if item[1][0] == "number"]

    def saying(text):
        if text[0] == "number":
            return ("text", numbers[text[1]])
        if text[0] == "entry":
            return ("page", at_heads[text[1]])
        if text[0] == "@":
            return ("text", ([numbers[k] for k, at in enumerate(at_heads) if at <= marks[text[1:]]] or ["0"])[-1])
        if text[0] in "&^":
            return ({"&": "page", "^": "row"}[text[0]], marks[text[1:]])
        return ("text", text)

    words = []
    for k, (setter, text, thing) in enumerate(told):
        ahead = told[k - 1] if k else (None, None, None)
        lead = 0
        if (ahead[0], ahead[2]) != (setter, thing):
            lead = 2
            if setter == "list" and thing[1] > 0 or setter == "words" and ahead[0] == "head":
                lead = 1
        for at, row in leaps:
            if at == k:
                lead = max(3 if lead < 3 else lead, 4 if row == ".odd" else 3)
        kept = ahead[0] == "head" and lead < 3
        foot = []
        if text[0] == "~":
            n = len([one for one in told[:k + 1] if one[1][0] == "~"])
            foot = [("text", f"({n})")] + [saying(one) for one in feet[text[1:]]]
            text = f"({n})"
        words.append((lead, kept, saying(text), foot))
    return words, marks, list(zip(numbers, at_heads))


def some_rows(chance):
    """Rows that are not refused: each mark once, with a word at the end."""
    names = ["ma", "mb", "mc"]
    used = chance.sample(names, chance.randint(0, 3))
    pointing = [sign + name for sign in "&^@" for name in used]
    waiting = list(used)

    def words(kinds):
        told = []
        for each in range(chance.randint(0, 3)):
            kind = chance.choice(kinds)
            if kind == "#" and waiting:
                told.append("#" + waiting.pop())
            elif kind == "&" and pointing:
                told.append(chance.choice(pointing))
            elif kind == "~":
                told.append(chance.choice(("~f", "~g")))
            else:
                told.append(chance.choice("abc"))
        return told

    rows = []
    for each in range(chance.randint(0, 9)):
        kind = chance.choice(("", "", ".page", ".odd", ".list", "=", "==", "===", "words", "words", "words"))
        if kind == "words":
            rows.append(" ".join(words("x#&~")))
        else:
            rows.append(" ".join([kind] + words("x#&")) if kind[:1] == "=" else kind)
    rows.append(" ".join(["#" + name for name in waiting] + ["end"]))
    for name in "fg":
        rows.insert(chance.randint(0, len(rows)), " ".join([".foot", name] + [one for one in words("x&")]))
    return rows


class SomeRows(Checked):
    """Rows by a chance that is the same each time, against a second way of setting them."""

    def test_set_as_by_the_words_of_the_document(self):
        met = set()
        for seed in range(3000):
            rows = some_rows(random.Random(seed))
            words, marks, heads = by_the_words(rows)
            (form, told), told_marks, told_heads = set_words(rows, FORM)
            self.assertEqual(told, words, rows)
            self.assertEqual((told_marks, told_heads), (marks, heads), rows)
            met.update(one[:2] for one in told)
            met.update(one[2][0] for one in told)
        kinds = set(itertools.product(range(5), (False, True))) - {(3, True), (4, True)}
        self.assertEqual(met, kinds | {"text", "page", "row"})


if __name__ == "__main__":
    unittest.main()
