"""Points 2, 10 and 11: rows of words read as nodes, and nodes written back."""

import itertools
import unittest

from helper import check_own, check_refused
from trueleaf.errors import BadCall, Deep, TrueleafError
from trueleaf.trees import tree_of, written


def word(text):
    return ("word", text)


def place(k):
    return ("place", k)


def call(name, *arguments):
    return ("call", name, list(arguments))


def words(*texts):
    return [word(text) for text in texts]


class Reading(unittest.TestCase):
    def check(self, row, nodes, count=None):
        self.assertEqual(tree_of(row.split(), count), nodes)

    def test_no_words(self):
        self.assertEqual(tree_of([]), [])
        self.assertEqual(tree_of([], 0), [])
        self.assertEqual(tree_of([], 9), [])

    def test_plain_words(self):
        self.check("one two one", words("one", "two", "one"))

    def test_calls_without_arguments(self):
        self.check("[a ]", [call("a")])
        self.check("x [a ] y", [word("x"), call("a"), word("y")])
        self.check("[a ] [a ]", [call("a"), call("a")])

    def test_calls_with_one_argument(self):
        self.check("[a x ]", [call("a", words("x"))])
        self.check("[a x y z ]", [call("a", words("x", "y", "z"))])

    def test_calls_with_several_arguments(self):
        self.check("[a x | y ]", [call("a", words("x"), words("y"))])
        self.check("[a x y | z | u v w ] b", [call("a", words("x", "y"), words("z"), words("u", "v", "w")), word("b")])
        nine = "[a " + " | ".join("123456789") + " ]"
        self.check(nine, [call("a", *[words(figure) for figure in "123456789"])])

    def test_calls_with_empty_arguments(self):
        self.check("[a | ]", [call("a", [], [])])
        self.check("[a | | ]", [call("a", [], [], [])])
        self.check("[a x | ]", [call("a", words("x"), [])])
        self.check("[a | x ]", [call("a", [], words("x"))])
        self.check("[a x | | y ]", [call("a", words("x"), [], words("y"))])

    def test_calls_in_calls(self):
        self.check("[a [b ] ]", [call("a", [call("b")])])
        self.check("[a [b x ] | y ]", [call("a", [call("b", words("x"))], words("y"))])
        self.check("[a x [b | y ] z | [c ] ] u", [
            call("a", [word("x"), call("b", [], words("y")), word("z")], [call("c")]), word("u")])
        self.check("[a [a [a ] ] ]", [call("a", [call("a", [call("a")])])])

    def test_a_bar_belongs_to_the_innermost_call(self):
        self.check("[a [b | ] ]", [call("a", [call("b", [], [])])])
        self.check("[a | [b ] ]", [call("a", [], [call("b")])])
        self.check("[a [b ] | ]", [call("a", [call("b")], [])])

    def test_a_bar_and_a_closing_bracket_out_of_calls(self):
        self.check("|", words("|"))
        self.check("]", words("]"))
        self.check("x | y ] ]", words("x", "|", "y", "]", "]"))
        self.check("| [a ] ] |", [word("|"), call("a"), word("]"), word("|")])

    def test_words_that_hold_these_signs(self):
        self.check("[a a| |a ]a a] || ]] ]", [call("a", words("a|", "|a", "]a", "a]", "||", "]]"))])

    def test_a_bracket_alone_and_with_what_is_no_name(self):
        for text in ("[", "[[", "[]", "[|", "[A", "[1", "[a-", "[a]", "[[a", "[$1", "[abcdefghijklm", "a[b", "[.use"):
            with self.subTest(text):
                self.check(text, words(text))
                self.check(f"[a {text} ]", [call("a", words(text))])
        self.assertEqual(tree_of(["[ a"]), words("[ a"))

    def test_names_of_1_and_12_signs(self):
        self.check("[z ]", [call("z")])
        self.check("[abcdefghij12 x ]", [call("abcdefghij12", words("x"))])

    def test_the_empty_word(self):
        self.assertEqual(tree_of([""]), [word("")])
        self.assertEqual(tree_of([""], 3), [word("")])

    def test_kinds(self):
        told = tree_of("[a x | $1 ] $2".split(), 2)
        self.assertEqual(told, [call("a", words("x"), [place(1)]), place(2)])
        self.assertIs(type(told), list)
        self.assertIs(type(told[0]), tuple)
        self.assertIs(type(told[0][2]), list)
        self.assertEqual([type(argument) for argument in told[0][2]], [list, list])
        self.assertIs(type(told[1]), tuple)
        self.assertIs(type(told[1][1]), int)


class Places(unittest.TestCase):
    FIGURES = ["$" + figure for figure in "0123456789"]

    def test_without_places_they_are_words_like_others(self):
        self.assertEqual(tree_of(self.FIGURES), words(*self.FIGURES))
        self.assertEqual(tree_of(self.FIGURES, None), words(*self.FIGURES))
        self.assertEqual(tree_of(["[a", "$1", "]"]), [call("a", words("$1"))])

    def test_each_figure_with_each_count(self):
        for count in range(10):
            for figure in range(10):
                with self.subTest(count=count, figure=figure):
                    row = ["x", f"${figure}"]
                    if 1 <= figure <= count:
                        self.assertEqual(tree_of(row, count), [word("x"), place(figure)])
                        self.assertEqual(tree_of(["[a"] + row + ["]"], count), [call("a", [word("x"), place(figure)])])
                    else:
                        check_refused(self, BadCall, tree_of, row, count)
                        check_refused(self, BadCall, tree_of, ["[a"] + row + ["]"], count)

    def test_the_dollar_with_other_signs(self):
        texts = ["$", "$$", "$a", "$10", "$12", "$1a", "a$1", "$-", "$|", "$]", "$[", "$.", "1$", "$1$", "$\u00b2",
                 "a1", "11", "1", "#1"]
        for count in (None, 0, 1, 9):
            for text in texts:
                with self.subTest(count=count, text=text):
                    self.assertEqual(tree_of([text], count), words(text))
                    self.assertEqual(tree_of(["[a", text, "]"], count), [call("a", words(text))])

    def test_places_in_arguments(self):
        self.assertEqual(tree_of("$2 [a $1 | [b $2 ] $1 ]".split(), 2), [
            place(2), call("a", [place(1)], [call("b", [place(2)]), place(1)])])


def nested(deep):
    return ["[a"] * deep + ["x"] + ["]"] * deep


class Refused(unittest.TestCase):
    def test_a_call_in_20_calls_and_in_21(self):
        told = tree_of(nested(20))
        for level in range(20):
            self.assertEqual((told[0][0], told[0][1], len(told[0][2])), ("call", "a", 1))
            told = told[0][2][0]
        self.assertEqual(told, words("x"))
        check_refused(self, Deep, tree_of, nested(21))
        check_refused(self, Deep, tree_of, nested(200))

    def test_calls_beside_one_another_are_not_deep(self):
        self.assertEqual(len(tree_of(nested(20) * 3)), 3)
        row = ["[a"] * 19 + ["[b", "]", "[b", "|", "]"] + ["]"] * 19
        self.assertEqual(written(tree_of(row)), row)

    def test_refused_as_it_is_opened(self):
        check_refused(self, Deep, tree_of, ["[a"] * 21)
        check_refused(self, BadCall, tree_of, ["[a"] * 20)
        check_refused(self, BadCall, tree_of, ["[a"] * 20 + ["[", "[A"])

    def test_a_row_that_ends_within_a_call(self):
        for row in ("[a", "[a x", "[a |", "[a x | y", "[a [b ]", "[a ] [a", "] [a", "[a [b", "[a [b ] |"):
            with self.subTest(row):
                check_refused(self, BadCall, tree_of, row.split())
                check_refused(self, BadCall, tree_of, row.split(), 2)

    def test_two_faults_in_one_row_in_either_order(self):
        check_refused(self, Deep, tree_of, ["[a"] * 21 + ["$0"], 2)
        check_refused(self, BadCall, tree_of, ["$0"] + ["[a"] * 21, 2)
        check_refused(self, BadCall, tree_of, ["[a"] * 20 + ["$3", "[a"], 2)
        check_refused(self, Deep, tree_of, ["[a"] * 20 + ["$2", "[a"], 2)
        check_refused(self, Deep, tree_of, ["[a"] * 20 + ["$3", "[a"], None)

    def test_a_list_that_was_refused_stays_as_it_is(self):
        row = ["[a", "x", "|", "$7"]
        check_refused(self, BadCall, tree_of, row, 2)
        self.assertEqual(row, ["[a", "x", "|", "$7"])


class Writing(unittest.TestCase):
    def test_each_kind(self):
        self.assertEqual(written([]), [])
        self.assertEqual(written(words("x", "y")), ["x", "y"])
        self.assertEqual(written([place(1), place(9)]), ["$1", "$9"])
        self.assertEqual(written([call("a")]), ["[a", "]"])
        self.assertEqual(written([call("a", words("x"))]), ["[a", "x", "]"])
        self.assertEqual(written([call("a", words("x"), [place(2)])]), ["[a", "x", "|", "$2", "]"])
        self.assertEqual(written([call("a", [], [])]), ["[a", "|", "]"])
        self.assertEqual(written([call("a", [], [], [])]), ["[a", "|", "|", "]"])
        self.assertEqual(written([call("a", [call("b"), word("x")]), word("y")]), ["[a", "[b", "]", "x", "]", "y"])

    def test_nodes_in_60_calls(self):
        for deep in (20, 21, 59, 60, 61, 70):
            nodes = words("x")
            for level in range(deep):
                nodes = [word("l"), call("a", nodes, [place(1)]), word("r")]
            expected = ["l", "[a"] * deep + ["x"] + ["|", "$1", "]", "r"] * deep
            self.assertEqual(check_own(self, written, nodes), expected)

    def test_many_calls_beside_one_another(self):
        nodes = [call("a", words("x"), []) for k in range(400)]
        self.assertEqual(written(nodes), ["[a", "x", "|", "]"] * 400)


def read_down(row, count, at=0, deep=0):
    """A second way to read: from word to word downwards. Gives back (nodes or arguments, the next word's number)."""
    arguments = [[]]
    barred = False
    while at < len(row):
        text = row[at]
        at += 1
        if deep and text == "]":
            return ([] if arguments == [[]] and not barred else arguments), at
        if deep and text == "|":
            barred = True
            arguments.append([])
        elif text.startswith("[") and text[1:].isalnum() and text[1:].islower():
            if deep == 20:
                raise Deep
            inner, at = read_down(row, count, at, deep + 1)
            arguments[-1].append(("call", text[1:], inner))
        elif count is not None and len(text) == 2 and text[0] == "$" and text[1].isdigit():
            if not 1 <= int(text[1]) <= count:
                raise BadCall
            arguments[-1].append(("place", int(text[1])))
        else:
            arguments[-1].append(("word", text))
    if deep:
        raise BadCall
    return arguments[0], at


class ShortRows(unittest.TestCase):
    """Every row of up to six of these words, read in a second way and written back."""

    def test_all(self):
        for many in range(7):
            for row in itertools.product(("[a", "|", "]", "x", "$1"), repeat=many):
                for count in (None, 0, 1):
                    self.check(list(row), count)

    def check(self, row, count):
        try:
            expected = read_down(row, count)[0]
        except TrueleafError as refusal:
            expected = type(refusal)
        try:
            told = tree_of(row, count)
            if written(told) != row:
                self.fail(f"{row} is written back as {written(told)}")
        except TrueleafError as refusal:
            told = type(refusal)
        if told != expected:
            self.fail(f"{row} with {count}: {told}, not {expected}")


class Own(unittest.TestCase):
    def test_what_is_told_is_the_askers_own(self):
        for row in ("", "x", "[a ]", "[a | ]", "[a x | [b ] | ] [a x | [b ] | ]", "[a [a [a | ] ] ]", "$1 [a $1 ]"):
            with self.subTest(row):
                check_own(self, tree_of, row.split())
                check_own(self, tree_of, row.split(), 1)
                check_own(self, written, tree_of(row.split(), 1))

    def test_nodes_that_hold_one_list_twice(self):
        argument = words("x")
        nodes = [call("a", argument, argument), call("b", argument)]
        self.assertEqual(check_own(self, written, nodes), ["[a", "x", "|", "x", "]", "[b", "x", "]"])


if __name__ == "__main__":
    unittest.main()
