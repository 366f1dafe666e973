"""Points 2 and 6 to 9: rows, parts put together, refusals, rings."""

import itertools
import unittest

from trueleaf.errors import BadRow, NoPart, Ring, TooLong
from trueleaf.parts import joined, ring_from, rows_in

NOT_GOOD = (
    ".use", " .use ", ".use one two", ".use one one", ".use One", ".use 1one", ".use one-",
    ".use abcdefghijklm", ".use .use", ".use one two three", ".use #one",
)


def text_of(*rows):
    return "\n".join(rows)


def plain_part(many):
    return "\n".join(["x"] * many)


class Rows(unittest.TestCase):
    def test_the_empty_text_has_one_row(self):
        self.assertEqual(rows_in(""), [""])

    def test_ordinary_texts(self):
        self.assertEqual(rows_in("one"), ["one"])
        self.assertEqual(rows_in("one\ntwo words\nthree"), ["one", "two words", "three"])

    def test_line_feeds_at_the_beginning_and_the_end(self):
        self.assertEqual(rows_in("\n"), ["", ""])
        self.assertEqual(rows_in("\none"), ["", "one"])
        self.assertEqual(rows_in("one\n"), ["one", ""])
        self.assertEqual(rows_in("\none\n"), ["", "one", ""])

    def test_several_line_feeds_in_a_row(self):
        self.assertEqual(rows_in("\n\n\n"), ["", "", "", ""])
        self.assertEqual(rows_in("one\n\n\ntwo"), ["one", "", "", "two"])
        self.assertEqual(rows_in("\n\none\n\n"), ["", "", "one", "", ""])

    def test_blanks_stay(self):
        self.assertEqual(rows_in("  one \n  \n two"), ["  one ", "  ", " two"])

    def test_many_long_rows(self):
        rows = ["y" * 400] * 200
        self.assertEqual(rows_in("\n".join(rows)), rows)

    def test_the_list_is_the_askers_own(self):
        first = rows_in("one\ntwo")
        first.pop()
        self.assertEqual(rows_in("one\ntwo"), ["one", "two"])


class PutTogether(unittest.TestCase):
    def test_a_part_alone(self):
        self.assertEqual(joined({"main": "one\n\n two "}, "main"),
                         [("main", 0, "one"), ("main", 1, ""), ("main", 2, " two ")])

    def test_the_empty_part(self):
        self.assertEqual(joined({"main": ""}, "main"), [("main", 0, "")])

    def test_told_are_tuples_in_a_list(self):
        told = joined({"main": "one\n.use sub", "sub": "two"}, "main")
        self.assertIs(type(told), list)
        self.assertEqual([type(row) for row in told], [tuple, tuple])

    def test_a_part_brought_ahead(self):
        parts = {"main": ".use sub\none", "sub": "two"}
        self.assertEqual(joined(parts, "main"), [("sub", 0, "two"), ("main", 1, "one")])

    def test_a_part_brought_behind(self):
        parts = {"main": "one\n.use sub", "sub": "two\nthree"}
        self.assertEqual(joined(parts, "main"), [("main", 0, "one"), ("sub", 0, "two"), ("sub", 1, "three")])

    def test_a_part_brought_among_rows(self):
        parts = {"main": "one\n.use sub\nlast", "sub": "two\n"}
        self.assertEqual(joined(parts, "main"),
                         [("main", 0, "one"), ("sub", 0, "two"), ("sub", 1, ""), ("main", 2, "last")])

    def test_use_rows_are_counted_in_their_own_part(self):
        parts = {"main": ".use sub\n.use sub\none\n.use sub\ntwo", "sub": "s"}
        self.assertEqual(joined(parts, "main"), [
            ("sub", 0, "s"), ("sub", 0, "s"), ("main", 2, "one"), ("sub", 0, "s"), ("main", 4, "two")])

    def test_parts_that_bring_parts(self):
        parts = {
            "main": text_of("m0", ".use mid", "m2"),
            "mid": text_of(".use low", "i1", ".use low", "i3"),
            "low": text_of("l0", "l1"),
        }
        low = [("low", 0, "l0"), ("low", 1, "l1")]
        mid = low + [("mid", 1, "i1")] + low + [("mid", 3, "i3")]
        self.assertEqual(joined(parts, "low"), low)
        self.assertEqual(joined(parts, "mid"), mid)
        self.assertEqual(joined(parts, "main"), [("main", 0, "m0")] + mid + [("main", 2, "m2")])

    def test_one_part_by_two_ways(self):
        parts = {"main": ".use left\n.use right", "left": ".use low", "right": "r\n.use low", "low": "l"}
        self.assertEqual(joined(parts, "main"), [("low", 0, "l"), ("right", 0, "r"), ("low", 0, "l")])

    def test_blanks_round_the_words_of_a_use_row(self):
        for row in (".use sub", "  .use sub", ".use sub   ", ".use    sub", "   .use   sub  "):
            with self.subTest(row):
                self.assertEqual(joined({"main": row, "sub": "two"}, "main"), [("sub", 0, "two")])

    def test_words_that_only_look_like_use(self):
        for row in (".used sub", ".user", ".use.", ".usesub", "use sub", "..use sub", ".USE sub", ".Use sub",
                    "a .use sub", "! .use sub", "!.use sub", ".", ".us e"):
            with self.subTest(row):
                self.assertEqual(joined({"main": row, "sub": "two"}, "main"), [("main", 0, row)])

    def test_names_of_1_and_12_signs(self):
        parts = {"a": ".use abcdefghij12", "abcdefghij12": "x"}
        self.assertEqual(joined(parts, "a"), [("abcdefghij12", 0, "x")])

    def test_parts_not_asked_for_are_left_out(self):
        self.assertEqual(joined({"main": "one", "other": "two"}, "main"), [("main", 0, "one")])

    def test_twenty_parts_in_a_chain(self):
        parts = {f"p{k}": f"a{k}\n.use p{k + 1}\nb{k}" for k in range(19)}
        parts["p19"] = "deep"
        ahead = [(f"p{k}", 0, f"a{k}") for k in range(19)]
        behind = [(f"p{k}", 2, f"b{k}") for k in reversed(range(19))]
        self.assertEqual(joined(parts, "p0"), ahead + [("p19", 0, "deep")] + behind)

    def test_a_part_of_200_long_rows(self):
        row = "z" * 400
        self.assertEqual(joined({"main": "\n".join([row] * 200)}, "main"),
                         [("main", k, row) for k in range(200)])


class Refused(unittest.TestCase):
    def refuse(self, refusal, parts, name="main"):
        before = dict(parts)
        with self.assertRaises(refusal) as caught:
            joined(parts, name)
        self.assertIs(type(caught.exception), refusal)
        self.assertEqual(parts, before)

    def test_rows_of_use_that_are_not_good(self):
        for row in NOT_GOOD:
            with self.subTest(row):
                self.refuse(BadRow, {"main": row, "one": "x", "two": "y"})
                self.refuse(BadRow, {"main": "a\n" + row + "\nb", "one": "x", "two": "y"})
                self.refuse(BadRow, {"main": "a\n.use sub", "sub": row, "one": "x", "two": "y"})

    def test_the_part_asked_for_is_not_there(self):
        for name in ("main", "", "Main", "sub2", "no name", ".use", "main\n"):
            with self.subTest(name):
                self.refuse(NoPart, {"sub": "x"}, name)
        self.refuse(NoPart, {})

    def test_the_part_asked_for_is_not_there_ahead_of_other_faults(self):
        self.refuse(NoPart, {"sub": ".use"})
        self.refuse(NoPart, {"sub": ".use sub"})

    def test_a_part_that_is_used_is_not_there(self):
        self.refuse(NoPart, {"main": "a\n.use sub"})
        self.refuse(NoPart, {"main": ".use sub", "sub": "b\n.use low"})

    def test_a_part_that_brings_itself(self):
        self.refuse(Ring, {"main": ".use main"})
        self.refuse(Ring, {"main": "a\nb\n.use main\nc"})
        self.refuse(Ring, {"main": ".use sub", "sub": ".use sub"})

    def test_rings_of_several(self):
        self.refuse(Ring, {"main": ".use sub", "sub": ".use main"})
        self.refuse(Ring, {"main": ".use sub", "sub": "a\n.use low", "low": ".use sub"})
        parts = {f"p{k}": f".use p{(k + 1) % 20}" for k in range(20)}
        self.refuse(Ring, parts, "p7")

    def test_a_part_looked_through_already_is_no_ring(self):
        parts = {"main": ".use low\n.use mid\n.use low", "mid": ".use low", "low": "x"}
        self.assertEqual(joined(parts, "main"), [("low", 0, "x")] * 3)

    def test_order_at_one_row(self):
        self.refuse(BadRow, {"main": ".use main main"})
        self.refuse(BadRow, {"main": ".use main sub", "sub": "x"})
        self.refuse(BadRow, {"main": ".use sub", "sub": ".use main sub"})
        self.refuse(BadRow, {"main": ".use none none"})
        self.refuse(BadRow, {"main": ".use NONE"})
        self.refuse(BadRow, {"main": ".use 9"})

    def test_what_stands_in_an_earlier_row_is_met_first(self):
        rows = {BadRow: ".use", Ring: ".use main", NoPart: ".use none"}
        for first, second in itertools.permutations(rows, 2):
            with self.subTest(first=first, second=second):
                self.refuse(first, {"main": text_of("a", rows[first], rows[second])})

    def test_what_stands_in_a_part_brought_is_met_ahead_of_the_next_row(self):
        rows = {BadRow: ".use", Ring: ".use main", NoPart: ".use none"}
        for first, second in itertools.permutations(rows, 2):
            with self.subTest(first=first, second=second):
                one = {"main": text_of(".use sub", rows[second]), "sub": text_of("a", rows[first])}
                self.refuse(first, one)
                two = {
                    "main": text_of(".use sub", rows[second]),
                    "sub": text_of(".use low", "b", rows[second]),
                    "low": text_of("a", "", rows[first], rows[second]),
                }
                self.refuse(first, two)

    def test_what_stands_ahead_of_a_use_row_is_met_ahead_of_the_part_brought(self):
        rows = {BadRow: ".use", Ring: ".use main", NoPart: ".use none"}
        for first, second in itertools.permutations(rows, 2):
            with self.subTest(first=first, second=second):
                parts = {
                    "main": text_of(".use good", ".use sub"), "good": "x",
                    "sub": text_of(rows[first], ".use low"), "low": rows[second],
                }
                self.refuse(first, parts)

    def test_a_fault_in_a_part_that_is_never_brought(self):
        for row in (".use", ".use other", ".use none", ".use main"):
            with self.subTest(row):
                self.assertEqual(joined({"main": "x", "other": row}, "main"), [("main", 0, "x")])


class TooManyRows(unittest.TestCase):
    def long_parts(self, first, second):
        return {"main": ".use one\n.use two", "one": plain_part(first), "two": plain_part(second)}

    def test_just_400(self):
        self.assertEqual(len(joined(self.long_parts(200, 200), "main")), 400)
        self.assertEqual(len(joined({"main": text_of(".use one", ".use one"), "one": plain_part(200)}, "main")), 400)

    def test_just_401(self):
        parts = {"main": ".use one\nx\n.use one", "one": plain_part(200)}
        with self.assertRaises(TooLong):
            joined(parts, "main")
        with self.assertRaises(TooLong):
            joined({"main": ".use sub", "sub": parts["main"], "one": parts["one"]}, "main")

    def test_every_bringing_is_counted(self):
        for many, told in ((199, 398), (200, 400)):
            parts = {"main": "\n".join([".use low"] * many), "low": "x\ny"}
            self.assertEqual(len(joined(parts, "main")), told)
        with self.assertRaises(TooLong):
            joined({"main": "\n".join([".use low"] * 134), "low": "x\ny\nz"}, "main")

    def test_use_rows_are_not_counted(self):
        parts = {"main": text_of(".use mid", ".use mid"), "mid": ".use one", "one": plain_part(200)}
        self.assertEqual(len(joined(parts, "main")), 400)

    def test_empty_rows_are_counted(self):
        parts = {"main": text_of(".use one", ".use one", ""), "one": "\n" * 199}
        with self.assertRaises(TooLong):
            joined(parts, "main")

    def test_a_part_that_is_not_brought_is_not_counted(self):
        parts = {"main": "x", "other": "\n".join([".use one"] * 3), "one": plain_part(200)}
        self.assertEqual(joined(parts, "main"), [("main", 0, "x")])

    def test_far_more_rows_than_could_be_written_down(self):
        parts = {f"p{k}": "\n".join([f".use p{k + 1}"] * 200) for k in range(19)}
        parts["p19"] = plain_part(200)
        with self.assertRaises(TooLong):
            joined(parts, "p0")
        self.assertEqual(len(joined(parts, "p19")), 200)

    def test_a_fault_behind_more_than_400_rows(self):
        for refusal, row in ((BadRow, ".use"), (Ring, ".use main"), (NoPart, ".use none")):
            with self.subTest(row):
                parts = {"main": "\n".join([".use one"] * 3 + [row]), "one": plain_part(200)}
                with self.assertRaises(refusal):
                    joined(parts, "main")
                parts = {"main": "\n".join([".use one"] * 3 + [".use sub"]), "one": plain_part(200), "sub": row}
                with self.assertRaises(refusal):
                    joined(parts, "main")


class Rings(unittest.TestCase):
    def check_ring(self, parts, name):
        before = dict(parts)
        ring = ring_from(parts, name)
        self.assertEqual(parts, before)
        self.assertIs(type(ring), list)
        self.assertTrue(ring)
        self.assertEqual(len(ring), len(set(ring)))
        for one, following in zip(ring, ring[1:] + ring[:1]):
            self.assertIn(following, uses(parts, one))
        self.assertTrue(ring[0] == name or ring[0] in come_to(parts, name))
        return ring

    def test_no_ring(self):
        self.assertIsNone(ring_from({"main": "x"}, "main"))
        self.assertIsNone(ring_from({"main": ".use sub\n.use sub", "sub": ".use low", "low": ""}, "main"))
        self.assertIsNone(ring_from({"main": ".use a\n.use b", "a": ".use c", "b": ".use c", "c": "x"}, "main"))

    def test_a_ring_of_one_part(self):
        self.assertEqual(self.check_ring({"main": "a\n.use main"}, "main"), ["main"])
        self.assertEqual(self.check_ring({"main": "  .use   main  "}, "main"), ["main"])

    def test_a_ring_of_several(self):
        parts = {"main": ".use sub", "sub": "a\n.use low", "low": "b\n\n.use main"}
        for name in parts:
            with self.subTest(name):
                self.assertEqual(sorted(self.check_ring(parts, name)), ["low", "main", "sub"])

    def test_a_ring_of_twenty(self):
        parts = {f"p{k}": f".use p{(k + 1) % 20}" for k in range(20)}
        self.assertEqual(len(self.check_ring(parts, "p3")), 20)

    def test_a_ring_come_to_by_way_of_other_parts(self):
        parts = {"main": "x\n.use way", "way": ".use end\n.use one", "end": "y", "one": ".use two", "two": ".use one"}
        self.assertEqual(sorted(self.check_ring(parts, "main")), ["one", "two"])
        parts = {"main": ".use sub", "sub": ".use sub"}
        self.assertEqual(self.check_ring(parts, "main"), ["sub"])

    def test_a_ring_that_can_not_be_come_to(self):
        parts = {"main": ".use sub", "sub": "x", "one": ".use two\n.use main", "two": ".use one"}
        self.assertIsNone(ring_from(parts, "main"))
        self.assertIsNone(ring_from(parts, "sub"))
        self.assertEqual(sorted(self.check_ring(parts, "one")), ["one", "two"])

    def test_rows_that_are_not_good_are_passed_over(self):
        for row in NOT_GOOD + (".used one", "x .use one", ".use one two"):
            with self.subTest(row):
                self.assertIsNone(ring_from({"one": row, "two": row}, "one"))
                self.assertEqual(self.check_ring({"one": text_of(row, ".use one"), "two": ""}, "one"), ["one"])

    def test_parts_that_are_not_there_are_passed_over(self):
        self.assertIsNone(ring_from({"main": ".use none"}, "main"))
        parts = {"main": ".use none\n.use sub", "sub": ".use none\n.use main"}
        self.assertEqual(sorted(self.check_ring(parts, "main")), ["main", "sub"])

    def test_a_name_that_is_not_there(self):
        for name in ("none", "", "MAIN", "no name"):
            with self.subTest(name):
                self.assertIsNone(ring_from({"main": ".use main"}, name))
                self.assertIsNone(ring_from({}, name))

    def test_no_ring_where_there_are_very_many_ways(self):
        parts = {f"p{k}": "\n".join([f".use p{j}" for j in range(k + 1, 20)] * 10) for k in range(20)}
        self.assertIsNone(ring_from(parts, "p0"))


class NothingChanged(unittest.TestCase):
    def test_the_shelf_stays_as_handed_in(self):
        parts = {"main": "a\n.use sub", "sub": "b", "ring": ".use ring"}
        before = dict(parts)
        joined(parts, "main")
        ring_from(parts, "main")
        ring_from(parts, "ring")
        self.assertEqual(list(parts.items()), list(before.items()))

    def test_changing_what_was_told_changes_nothing_told_later(self):
        parts = {"main": ".use sub\n.use sub", "sub": "b", "ring": ".use ring"}
        first = joined(parts, "main")
        expected = list(first)
        first.clear()
        self.assertEqual(joined(parts, "main"), expected)
        ring = ring_from(parts, "ring")
        ring.append("more")
        self.assertEqual(ring_from(parts, "ring"), ["ring"])

    def test_nothing_is_kept_of_a_shelf(self):
        parts = {"main": ".use sub", "sub": "b"}
        first = joined(parts, "main")
        parts["sub"] = "c\n.use main"
        self.assertEqual(first, [("sub", 0, "b")])
        with self.assertRaises(Ring):
            joined(parts, "main")
        self.assertEqual(sorted(ring_from(parts, "main")), ["main", "sub"])
        parts["sub"] = "d"
        self.assertEqual(joined(parts, "main"), [("sub", 0, "d")])
        self.assertIsNone(ring_from(parts, "main"))


class SmallShelves(unittest.TestCase):
    """Every shelf of parts a and b with one or two of these rows each, alone and with some parts c,
    against other ways to find the answer.
    """

    ROWS = ("x", ".use a", ".use b", ".use c", ".use d", ".use")

    def shelves(self):
        texts = list(self.ROWS) + ["\n".join(rows) for rows in itertools.product(self.ROWS, repeat=2)]
        for a, b in itertools.product(texts, repeat=2):
            yield {"a": a, "b": b}
        for a, b in itertools.product(texts, repeat=2):
            for c in ("x", ".use a", ".use b\n.use c", ".use d", "x\n.use"):
                yield {"a": a, "b": b, "c": c}

    def test_joined(self):
        for parts in self.shelves():
            expected = met_first(parts, "a")
            try:
                told = joined(parts, "a")
            except (BadRow, NoPart, Ring) as refusal:
                told = type(refusal)
            if told != expected:
                self.fail(f"{parts}: {told}, not {expected}")

    def test_ring_from(self):
        for parts in self.shelves():
            reached = come_to(parts, "a") | {"a"}
            on_rings = [name for name in reached if name in come_to(parts, name)]
            ring = ring_from(parts, "a")
            if not on_rings:
                self.assertIsNone(ring, parts)
            else:
                self.assertEqual(len(ring), len(set(ring)), parts)
                self.assertIn(ring[0], reached, parts)
                for one, following in zip(ring, ring[1:] + ring[:1]):
                    self.assertIn(following, uses(parts, one), parts)


def uses(parts, name):
    """The parts on the shelf that good .use rows of a part name, with names of one small letter or more."""
    rows = [row.split() for row in parts[name].split("\n")]
    return {row[1] for row in rows if len(row) == 2 and row[0] == ".use" and row[1] in parts}


def come_to(parts, name):
    found = set()
    fresh = uses(parts, name)
    while fresh - found:
        found |= fresh
        fresh = set().union(*[uses(parts, one) for one in found])
    return found


def met_first(parts, name):
    """What joined tells, or the class it refuses with, by rows laid on a pile, none of them remembered."""
    pile = [(name, k, row, (name,)) for k, row in reversed(list(enumerate(parts[name].split("\n"))))]
    told = []
    while pile:
        part, k, row, within = pile.pop()
        words = row.split()
        if words[0] != ".use":
            told.append((part, k, row))
        elif len(words) != 2:
            return BadRow
        elif words[1] in within:
            return Ring
        elif words[1] not in parts:
            return NoPart
        else:
            brought = list(enumerate(parts[words[1]].split("\n")))
            pile.extend((words[1], j, text, within + (words[1],)) for j, text in reversed(brought))
    return told


if __name__ == "__main__":
    unittest.main()
