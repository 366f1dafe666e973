"""Points 2, 32 and 33: rows read one by one, and what of them is refused."""

import itertools
import unittest

from helper import check_own, check_refused
from trueleaf.errors import BadCall, BadRow, BadWord, Deep, NoShort, TooLong, Twice
from trueleaf.reading import read_rows


def texts(*words):
    return [("plain", word) for word in words]


def paragraph(*words):
    return ("paragraph", texts(*words))


class Checked(unittest.TestCase):
    def check(self, rows, things, feet=None):
        told = check_own(self, read_rows, rows)
        self.assertEqual(told, (things, feet or {}), rows)

    def refuse(self, refusal, *rows):
        check_refused(self, refusal, read_rows, list(rows))


class Paragraphs(Checked):
    def test_no_rows_and_rows_without_words(self):
        self.check([], [])
        self.check([""], [])
        self.check(["", "   ", ""], [])

    def test_rows_that_follow_one_another(self):
        self.check(["a b", "c"], [paragraph("a", "b", "c")])
        self.check(["  a   b ", "   c  "], [paragraph("a", "b", "c")])
        self.check(["= t", "a", "b", "", "c", "d"], [("head", 1, texts("t")), paragraph("a", "b"), paragraph("c", "d")])

    def test_a_row_without_words_ends_a_paragraph(self):
        self.check(["a", "", "b"], [paragraph("a"), paragraph("b")])
        self.check(["a", "   ", "", "b", ""], [paragraph("a"), paragraph("b")])

    def test_let_and_foot_rows_do_not_end_it(self):
        self.check(["a", ".let s 0 x", "b", ".foot f y", "c"], [paragraph("a", "b", "c")], {"f": texts("y")})
        self.check(["a", ".let s 0 x", "", "b"], [paragraph("a"), paragraph("b")])
        self.check(["a", "", ".let s 0 x", "b"], [paragraph("a"), paragraph("b")])

    def test_all_other_rows_end_it(self):
        rows = {".page": ("page",), ".odd": ("odd",), ".list": ("list",), "= t": ("head", 1, texts("t"))}
        for row, thing in rows.items():
            self.check(["a", row, "b"], [paragraph("a"), thing, paragraph("b")])

    def test_words_of_each_kind(self):
        self.check(["a #b @c &d ^e ~f !#g ! # #B"], [("paragraph", [
            ("plain", "a"), ("mark", "b"), ("number", "c"), ("page", "d"), ("row", "e"), ("foot", "f"), ("plain", "#g"),
            ("plain", "!"), ("plain", "#"), ("plain", "#B")])])

    def test_words_that_are_read_otherwise_at_a_rows_beginning(self):
        self.check(["a .page .x = == ==="], [paragraph("a", ".page", ".x", "=", "==", "===")])
        self.check(["!.page"], [paragraph(".page")])
        self.check(["!= a"], [paragraph("=", "a")])
        self.check(["====", "=a", "$1 $0 $"], [paragraph("====", "=a", "$1", "$0", "$")])

    def test_a_row_that_comes_to_no_words(self):
        self.check([".let none 0", "[none ]"], [("paragraph", [])])
        self.check([".let none 0", "[none ]", "a"], [paragraph("a")])


class Shorts(Checked):
    def test_put_out_in_paragraphs_titles_and_feet(self):
        self.check([".let twice 1 $1 $1", "[twice a ] b", "= [twice t ]", ".foot f [twice [twice u ] ]"],
                   [paragraph("a", "a", "b"), ("head", 1, texts("t", "t"))], {"f": texts("u", "u", "u", "u")})

    def test_one_calls_one_told_ahead(self):
        self.check([".let s 0 x", ".let t 1 [s ] $1", "[t a ]"], [paragraph("x", "a")])

    def test_what_is_put_out_is_read(self):
        self.check([".let s 1 #m $1 !~f", "[s @m ] [s ~f ]"], [("paragraph", [
            ("mark", "m"), ("number", "m"), ("plain", "~f"), ("mark", "m"), ("foot", "f"), ("plain", "~f")])])
        self.check([".let p 0 .page", "[p ]"], [paragraph(".page")])
        self.check([".let p 0 .page", "= [p ]"], [("head", 1, texts(".page"))])

    def test_told_behind_their_use(self):
        self.refuse(NoShort, "[s ]", ".let s 0 x")
        self.refuse(NoShort, "= [s ]", ".let s 0 x")
        self.refuse(NoShort, ".foot f [s ]", ".let s 0 x")
        self.refuse(NoShort, ".let t 0 [s ]", ".let s 0 x")
        self.refuse(NoShort, ".let s 0 [s ]")

    def test_each_row_is_read_by_itself(self):
        self.refuse(BadCall, ".let s 1 $1", "[s a", "]")
        self.check([".let s 1 $1", "[s a ]", "]"], [paragraph("a", "]")])

    def test_places(self):
        self.check([".let s 9 $9 $8 $7 $6 $5 $4 $3 $2 $1", "[s 1 | 2 | 3 | 4 | 5 | 6 | 7 | 8 | 9 ]"],
                   [paragraph(*"987654321")])
        self.check([".let s 0 $a $10 $", "[s ] $1"], [paragraph("$a", "$10", "$", "$1")])

    def test_a_name_that_a_foot_has(self):
        self.check([".let a 0 x", ".foot a y [a ]", "[a ] ~a"], [("paragraph", [("plain", "x"), ("foot", "a")])],
                   {"a": texts("y", "x")})
        self.check([".foot a y", ".let a 0 x"], [], {"a": texts("y")})


class Heads(Checked):
    def test_levels_and_titles(self):
        self.check(["= a", "== b c", "=== d"], [("head", 1, texts("a")), ("head", 2, texts("b", "c")),
                                                ("head", 3, texts("d"))])
        self.check(["  =  a  "], [("head", 1, texts("a"))])

    def test_without_a_title(self):
        self.check(["=", "==", "==="], [("head", 1, []), ("head", 2, []), ("head", 3, [])])

    def test_words_of_titles(self):
        self.check(["= #m @m &m ^m !~f = == .page"], [("head", 1, [
            ("mark", "m"), ("number", "m"), ("page", "m"), ("row", "m")] + texts("~f", "=", "==", ".page"))])


class Alone(Checked):
    def test_rows_of_one_word(self):
        self.check([".page", "  .odd ", ".list", ".list"], [("page",), ("odd",), ("list",), ("list",)])

    def test_words_behind_them(self):
        for first in (".page", ".odd", ".list"):
            self.refuse(BadRow, f"{first} a")
            self.refuse(BadRow, f"  {first}   {first} ")


class Feet(Checked):
    def test_words_of_feet(self):
        self.check([".foot f a @m &m ^m !#m !~f"], [], {"f": [
            ("plain", "a"), ("number", "m"), ("page", "m"), ("row", "m"), ("plain", "#m"), ("plain", "~f")]})
        self.check([".foot f", "  .foot   g  .foot "], [], {"f": [], "g": texts(".foot")})

    def test_39_and_40_words(self):
        self.check([".foot f" + " a" * 39], [], {"f": texts(*"a" * 39)})
        self.refuse(TooLong, ".foot f" + " a" * 40)
        self.check([".let s 0" + " a" * 13, ".foot f" + " [s ]" * 3], [], {"f": texts(*"a" * 39)})
        self.refuse(TooLong, ".let s 0" + " a" * 13, ".foot f" + " [s ]" * 3 + " b")


class BadRows(Checked):
    def test_rows_that_begin_with_another_word_with_a_point(self):
        for row in (".", "..", ".use a", ".Page", ".pages", ".let2 a 0", ".lists", " .x ", ".= a", ".!page"):
            self.refuse(BadRow, row)

    def test_names_that_lack_or_are_none(self):
        for name in ("", "A", "a-b", "1a", "abcdefghijklm", ".a", "!a", "#a", "[a"):
            self.refuse(BadRow, f".let {name} 0 x")
            self.refuse(BadRow, f".let {name}")
        for name in ("", "A", "a-b", "1a", "abcdefghijklm", ".a", "!a", "#a", "[a"):
            self.refuse(BadRow, f".foot {name}")
        self.refuse(BadRow, ".foot A x y")
        self.check([".let abcdefghijkl 0", ".foot abcdefghijkl x"], [], {"abcdefghijkl": texts("x")})

    def test_counts_that_lack_or_are_none(self):
        for count in ("", "a", "10", "01", "00", "-1", "+1", "1.", "$1", "12", "0123456789", "one"):
            self.refuse(BadRow, f".let a {count}")
            if count:
                self.refuse(BadRow, f".let a {count} x")
        self.check([".let a 0"], [])


class Words(Checked):
    def test_60_and_61_signs(self):
        long = "x" * 60
        self.check([long, "!" + long, "= " + long + " !" + long, ".foot f " + long + " !" + long],
                   [paragraph(long, long), ("head", 1, texts(long, long))], {"f": texts(long, long)})
        for row in ("{}x", "!{}x", "a b {}x", "= {}x", "= !{}x", ".foot f {}x", ".foot f a !{}x", "!!{}"):
            self.refuse(BadWord, row.format(long))

    def test_only_where_they_are_put_out(self):
        long = "x" * 61
        self.check([".let s 0 " + long, ".let t 1 [s ] $1"], [])
        self.refuse(BadWord, ".let s 0 " + long, "[s ]")
        self.refuse(BadWord, ".let s 0 " + long, ".let t 1 [s ] $1", "= [t a ]")
        self.check([".let s 1 !$1 $1", "[s " + "x" * 60 + " ]"], [paragraph("$1", "x" * 60)])

    def test_marks_and_the_like_of_many_signs_are_plain_words(self):
        self.check(["#" + "a" * 12], [("paragraph", [("mark", "a" * 12)])])
        self.check(["#" + "a" * 59], [paragraph("#" + "a" * 59)])
        self.refuse(BadWord, "#" + "a" * 60)

    def test_feet_in_titles(self):
        self.refuse(BadWord, "= ~f")
        self.refuse(BadWord, "=== a ~f b")
        self.refuse(BadWord, ".foot f x", "== ~f")
        self.refuse(BadWord, ".let s 0 ~f", "= [s ]")

    def test_marks_and_feet_in_feet(self):
        self.refuse(BadWord, ".foot f #a")
        self.refuse(BadWord, ".foot f ~g")
        self.refuse(BadWord, ".foot g x", ".foot f a b ~g")
        self.refuse(BadWord, ".let s 0 #a", ".foot f [s ]")


class Refusals(Checked):
    """Each refusal of a row by itself, and the order of two at one row."""

    def test_twice(self):
        self.refuse(Twice, ".let a 0 x", ".let a 0 x")
        self.refuse(Twice, ".let a 0 x", ".let b 0", "", ".let a 1 $1")
        self.refuse(Twice, ".foot a", ".foot a")
        self.refuse(Twice, ".foot a x", "y", ".foot b", ".foot a x")

    def test_reading_nodes(self):
        self.refuse(Deep, ".let s 1 $1", "[s " * 21 + "a" + " ]" * 21)
        self.check([".let s 1 $1", "[s " * 20 + "a" + " ]" * 20], [paragraph("a")])
        for row in ("{}", "= {}", ".foot f {}", ".let s 0 {}"):
            self.refuse(BadCall, row.format("a [t"))
            self.refuse(Deep, row.format("[t " * 21))
        self.refuse(BadCall, ".let s 1 $1 $2")
        self.refuse(BadCall, ".let s 1 $1 $0")
        self.refuse(BadCall, ".let s 0 $1")

    def test_making_shorts(self):
        self.refuse(NoShort, ".let s 0 [t ]")
        self.refuse(BadCall, ".let t 1 $1", ".let s 0 [t ]")
        self.refuse(BadCall, ".let s 1")
        self.refuse(BadCall, ".let s 2 $2 $2")
        self.refuse(TooLong, ".let s 0" + " a" * 100, ".let t 0 [s ] [s ] [s ] [s ] a")
        self.check([".let s 0" + " a" * 100, ".let t 0 [s ] [s ] [s ] [s ]"], [])
        self.refuse(TooLong, ".let s 0", ".let t 0" + " [s ]" * 60, ".let u 0 [t ]")
        self.check([".let s 0", ".let t 0" + " [s ]" * 59, ".let u 0 [t ]"], [])

    def test_putting_words_out(self):
        ahead = [".let t 1 $1", ".let s 0" + " a" * 100]
        for row in ("{}", "= {}", ".foot f {}"):
            self.refuse(NoShort, *ahead, row.format("[u ]"))
            self.refuse(BadCall, *ahead, row.format("[t ]"))
            self.refuse(BadCall, *ahead, row.format("[t a | b ]"))
            self.refuse(TooLong, *ahead, row.format("[s ] [s ] [s ] [s ] a"))
        self.check(ahead + ["[s ] [s ] [s ] [s ]"], [paragraph(*"a" * 400)])
        calls = [".let s 0", ".let t 0" + " [s ]" * 59, ".let u 0 [t ]"]
        self.refuse(TooLong, *calls, "[u ] " * 6 + "[t ]")
        self.check(calls + ["[u ] " * 6 + "[s ] " * 34], [("paragraph", [])])

    def test_two_at_one_row(self):
        long = "x" * 61
        ahead = [".let a 0 x", ".foot a x", ".let t 1 $1", ".let big 0" + " x" * 100]
        for refusal, row in (
                (BadRow, ".let a"), (BadRow, ".let a 10 $1"), (BadRow, ".foot A [t"), (BadRow, ".page [t"),
                (Twice, ".let a 0 [t"), (Twice, ".let a 0 $1"), (Twice, ".let a 0 [none ]"), (Twice, ".foot a [t"),
                (Twice, ".foot a #m"), (Twice, ".foot a" + " x" * 40),
                (BadCall, ".let b 0 [none ] $1"), (BadCall, "[none ] [t a"), (BadCall, ".foot b [none ] [t a"),
                (BadCall, "= [none ] ~a [t"), (Deep, "[none ] " + "[t " * 21), (BadCall, f"{long} [t"),
                (NoShort, f"{long} [none ]"), (NoShort, "= ~a [none ]"), (NoShort, ".foot b #m [none ]"),
                (NoShort, ".foot b" + " x" * 40 + " [none ]"), (BadCall, f"[t ] {long}"),
                (NoShort, ".let b 1 [none ]"), (BadCall, ".let b 1 [big ] [big ] [big ] [big ] x"),
                (NoShort, "[none ] [t ]"), (BadCall, "[t ] [none ]"), (NoShort, "[big ] " * 5 + "[none ]"),
                (TooLong, "[big ] " * 4 + long), (TooLong, ".foot b #m " + "[big ] " * 4),
                (BadWord, ".foot b" + " x" * 40 + " #m"), (BadWord, ".foot b" + " x" * 39 + " ~a")):
            self.refuse(refusal, *ahead, row)

    def test_the_first_row_of_two(self):
        bad = {BadRow: ".x", Twice: ".let a 0", BadCall: "[a", Deep: "[a " * 21, NoShort: "[none ]",
               TooLong: ".foot b" + " x" * 40, BadWord: "= ~a"}
        for one, other in itertools.permutations(bad, 2):
            self.refuse(one, ".let a 0 x", "fine", bad[one], "= fine", bad[other])

    def test_the_same_row_with_blanks(self):
        rows = {".let a": BadRow, ".let s 0 x y": Twice, "[s": BadCall, "[u ]": NoShort, "= ~a": BadWord}
        for row, refusal in rows.items():
            self.refuse(refusal, ".let s 0", "   " + row.replace(" ", "    ") + "  ")

    def test_nothing_is_kept_from_rows_read_ahead(self):
        for each in range(2):
            self.check([".let a 0 x", ".foot a y", "[a ]"], [paragraph("x")], {"a": texts("y")})


if __name__ == "__main__":
    unittest.main()
