"""Points 2, 3 and 41: the desk, its deeds, what it tells and what it issues."""

import copy
import itertools
import random
import unittest

from helper import lists_in, scribble
from trueleaf.desk import Desk
from trueleaf.errors import (BadForm, BadName, BadRow, NoLaying, NoMark, NoPart, NoRow, NothingDone, TooLong,
                             TrueleafError, Twice)
from trueleaf.filings import filed
from trueleaf.pages import tell_pages

FORM = (12, 3, 1, 5)
FAR = 10 ** 5000


def desk_with(parts, form=FORM):
    desk = Desk(form)
    for name, text in parts.items():
        desk.put_part(name, text)
    return desk


class Checked(unittest.TestCase):
    def refuse(self, refusal, desk, deed, *given):
        """The deed is refused with just this class, and nothing of the desk is another behind it."""
        before = desk.shelf()
        with self.assertRaises(refusal) as caught:
            getattr(desk, deed)(*given)
        self.assertIs(type(caught.exception), refusal)
        self.assertEqual(desk.shelf(), before)

    def do(self, desk, deed, *given):
        self.assertIsNone(getattr(desk, deed)(*given))


class Forms(Checked):
    def test_good_forms(self):
        for form in ((1, 1, 0, 1), (200, 60, 10 ** 60, 60), FORM):
            self.assertEqual(Desk(form).shelf(), {})

    def test_forms_out_of_their_bounds(self):
        for form in ((0, 3, 1, 5), (201, 3, 1, 5), (12, 0, 1, 5), (12, 61, 1, 5), (12, 3, -1, 5),
                     (12, 3, 10 ** 60 + 1, 5), (12, 3, 1, 0), (12, 3, 1, 61), (FAR, 3, 1, 5)):
            with self.assertRaises(BadForm) as caught:
                Desk(form)
            self.assertIs(type(caught.exception), BadForm)


class Parts(Checked):
    def test_put_and_dropped(self):
        desk = Desk(FORM)
        self.do(desk, "put_part", "main", "a\nb")
        self.do(desk, "put_part", "sub", "")
        self.assertEqual(desk.shelf(), {"main": "a\nb", "sub": ""})
        self.do(desk, "drop_part", "main")
        self.assertEqual(desk.shelf(), {"sub": ""})
        self.do(desk, "put_part", "main", "c")
        self.assertEqual(desk.shelf(), {"main": "c", "sub": ""})

    def test_no_name(self):
        desk = desk_with({"a": "x"})
        for name in ("", "A", "1a", "a b", "abcdefghijklm", "a\n", "#a"):
            self.refuse(BadName, desk, "put_part", name, "x")
        self.do(desk, "put_part", "abcdefghijkl", "x")

    def test_a_name_that_is_there(self):
        desk = desk_with({"a": "x"})
        self.refuse(Twice, desk, "put_part", "a", "x")
        self.refuse(Twice, desk, "put_part", "a", "y")

    def test_20_parts(self):
        desk = desk_with({f"p{k}": "x" for k in range(20)})
        self.refuse(TooLong, desk, "put_part", "p20", "x")
        self.do(desk, "drop_part", "p3")
        self.do(desk, "put_part", "p20", "x")
        self.refuse(TooLong, desk, "put_part", "p3", "x")

    def test_two_refusals_at_once(self):
        desk = desk_with({f"p{k}": "x" for k in range(20)})
        self.refuse(BadName, desk, "put_part", "P", "x")
        self.refuse(Twice, desk, "put_part", "p7", "x")

    def test_dropping_what_is_not_there(self):
        desk = desk_with({"a": "x"})
        for name in ("b", "", "A", "main", "shelf"):
            self.refuse(NoPart, desk, "drop_part", name)
        self.do(desk, "drop_part", "a")
        self.refuse(NoPart, desk, "drop_part", "a")


class Rows(Checked):
    def test_put_at_each_number(self):
        for at, text in enumerate(("x\na\n\nb", "a\nx\n\nb", "a\n\nx\nb", "a\n\nb\nx")):
            desk = desk_with({"main": "a\n\nb", "sub": "c"})
            self.do(desk, "put_row", "main", at, "x")
            self.assertEqual(desk.shelf(), {"main": text, "sub": "c"})

    def test_put_into_an_empty_text(self):
        for at, text in enumerate(("x\n", "\nx")):
            desk = desk_with({"main": ""})
            self.do(desk, "put_row", "main", at, "x")
            self.assertEqual(desk.shelf(), {"main": text})

    def test_an_empty_row_put(self):
        desk = desk_with({"main": "a"})
        self.do(desk, "put_row", "main", 1, "")
        self.assertEqual(desk.shelf(), {"main": "a\n"})

    def test_put_where_none_can_be(self):
        desk = desk_with({"main": "a\nb"})
        for at in (-1, -2, -3, 3, 4, FAR, -FAR):
            self.refuse(NoRow, desk, "put_row", "main", at, "x")

    def test_put_into_a_part_that_is_not_there(self):
        desk = desk_with({"main": "a"})
        for at in (0, 1, -1, FAR):
            self.refuse(NoPart, desk, "put_row", "sub", at, "x")

    def test_200_rows(self):
        desk = desk_with({"main": "a" + "\n" * 198})
        self.do(desk, "put_row", "main", 199, "b")
        for at in (0, 100, 200):
            self.refuse(TooLong, desk, "put_row", "main", at, "x")
        for at in (-1, 201, FAR):
            self.refuse(NoRow, desk, "put_row", "main", at, "x")
        self.do(desk, "cut_row", "main", 199)
        self.do(desk, "put_row", "main", 0, "x")
        self.assertEqual(desk.shelf(), {"main": "x\na" + "\n" * 198})

    def test_cut_at_each_number(self):
        for at, text in enumerate(("b\nc", "a\nc", "a\nb")):
            desk = desk_with({"main": "a\nb\nc", "sub": "d"})
            self.do(desk, "cut_row", "main", at)
            self.assertEqual(desk.shelf(), {"main": text, "sub": "d"})

    def test_the_only_row_cut(self):
        desk = desk_with({"main": "a"})
        for each in range(3):
            self.do(desk, "cut_row", "main", 0)
            self.assertEqual(desk.shelf(), {"main": ""})
            self.refuse(NoRow, desk, "cut_row", "main", 1)

    def test_cut_where_there_is_none(self):
        desk = desk_with({"main": "a\nb"})
        for at in (-1, -2, 2, 3, FAR, -FAR):
            self.refuse(NoRow, desk, "cut_row", "main", at)
            self.refuse(NoPart, desk, "cut_row", "sub", at)


class TakenBack(Checked):
    def test_nothing_done(self):
        desk = Desk(FORM)
        self.refuse(NothingDone, desk, "undo")
        self.refuse(NothingDone, desk, "undo")

    def test_one_by_one_and_one_more(self):
        desk = Desk(FORM)
        deeds = [("put_part", "main", "a\nb"), ("put_row", "main", 1, "x"), ("cut_row", "main", 0),
                 ("put_part", "sub", "c"), ("drop_part", "main"), ("put_part", "main", "d"), ("cut_row", "main", 0)]
        shelves = [desk.shelf()]
        for deed in deeds:
            self.do(desk, *deed)
            shelves.append(desk.shelf())
        self.assertEqual(shelves[-1], {"main": "", "sub": "c"})
        while len(shelves) > 1:
            self.assertEqual(desk.shelf(), shelves.pop())
            self.do(desk, "undo")
        self.assertEqual(desk.shelf(), {})
        self.refuse(NothingDone, desk, "undo")

    def test_behind_refused_deeds(self):
        desk = desk_with({"main": "a"})
        self.do(desk, "put_row", "main", 1, "b")
        for refusal, deed in ((BadName, ("put_part", "A", "")), (Twice, ("put_part", "main", "")),
                              (NoPart, ("drop_part", "sub")), (NoPart, ("put_row", "sub", 0, "")),
                              (NoRow, ("put_row", "main", 9, "")), (NoRow, ("cut_row", "main", 9)),
                              (NoPart, ("cut_row", "sub", 0))):
            self.refuse(refusal, desk, *deed)
        self.do(desk, "undo")
        self.assertEqual(desk.shelf(), {"main": "a"})
        self.do(desk, "undo")
        self.refuse(NothingDone, desk, "undo")

    def test_a_deed_taken_back_does_not_stand(self):
        desk = desk_with({"main": "a"})
        self.do(desk, "put_row", "main", 0, "b")
        self.do(desk, "undo")
        self.do(desk, "put_row", "main", 0, "c")
        self.do(desk, "undo")
        self.assertEqual(desk.shelf(), {"main": "a"})
        self.do(desk, "undo")
        self.assertEqual(desk.shelf(), {})

    def test_telling_and_issuing_are_no_deeds(self):
        desk = desk_with({"main": "a"})
        desk.tell()
        desk.issue()
        desk.shelf()
        self.do(desk, "undo")
        self.assertEqual(desk.shelf(), {})
        self.refuse(NothingDone, desk, "undo")

    def test_many_deeds(self):
        desk = desk_with({"main": ""})
        for k in range(199):
            desk.put_row("main", k, f"x{k}")
        for k in range(199):
            desk.undo()
        self.assertEqual(desk.shelf(), {"main": ""})


class Told(Checked):
    def test_the_part_main(self):
        desk = desk_with({"sub": "sub &m", "main": "#m a\n.use sub"})
        self.assertEqual(desk.tell(), [(1, ["a sub 1", "", ""])])
        self.assertEqual(desk.tell(), tell_pages(desk.shelf(), "main", FORM))

    def test_refusals(self):
        for refusal, parts in ((NoPart, {}), (NoPart, {"sub": "a"}), (BadRow, {"main": ".x"}), (NoMark, {"main": "&m"}),
                               (NoLaying, {"main": "x" * 13})):
            desk = desk_with(parts)
            self.refuse(refusal, desk, "tell")
            self.refuse(refusal, desk, "issue")

    def test_in_the_desks_own_form(self):
        desk = desk_with({"main": "a b"}, (1, 1, 8, 3))
        self.assertEqual(desk.tell(), [(8, ["a"]), (9, ["b"])])


class Issued(Checked):
    def test_at_first_and_once_more(self):
        desk = desk_with({"main": "a"})
        self.assertEqual(desk.issue(), [(0, (1, ["a", "", ""]))])
        self.assertEqual(desk.issue(), [])

    def test_behind_deeds(self):
        desk = desk_with({"main": "a\n.page\nb\n.page\nc"})
        self.assertEqual([k for k, page in desk.issue()], [0, 1, 2])
        desk.put_row("main", 3, "d")
        self.assertEqual(desk.issue(), [(1, (2, ["b d", "", ""]))])
        desk.cut_row("main", 4)
        self.assertEqual(desk.issue(), [(1, (2, ["b d c", "", ""])), (2, None)])

    def test_behind_deeds_taken_back(self):
        desk = desk_with({"main": "a"})
        desk.issue()
        desk.put_row("main", 1, "b")
        self.assertEqual(desk.issue(), [(0, (1, ["a b", "", ""]))])
        desk.undo()
        self.assertEqual(desk.issue(), [(0, (1, ["a", "", ""]))])
        desk.put_row("main", 1, "b")
        desk.undo()
        self.assertEqual(desk.issue(), [])

    def test_behind_a_refused_telling(self):
        desk = desk_with({"main": "a"})
        desk.issue()
        desk.put_row("main", 1, "&m")
        self.refuse(NoMark, desk, "issue")
        self.refuse(NoMark, desk, "issue")
        desk.cut_row("main", 1)
        self.assertEqual(desk.issue(), [])
        desk.drop_part("main")
        self.refuse(NoPart, desk, "issue")
        desk.put_part("main", "b")
        self.assertEqual(desk.issue(), [(0, (1, ["b", "", ""]))])

    def test_telling_is_no_issuing(self):
        desk = desk_with({"main": "a"})
        desk.tell()
        self.assertEqual(len(desk.issue()), 1)
        desk.put_row("main", 1, "b")
        desk.tell()
        self.assertEqual(len(desk.issue()), 1)

    def test_no_pages(self):
        desk = desk_with({"main": ""})
        self.assertEqual(desk.issue(), [])
        desk.put_row("main", 0, "a")
        desk.issue()
        desk.cut_row("main", 0)
        self.assertEqual(desk.issue(), [(0, None)])


class OwnLists(Checked):
    def test_changing_what_was_told(self):
        desk = desk_with({"main": "a\n.page\nb"})
        for ask in (desk.tell, desk.shelf):
            before = ask()
            told = ask()
            self.assertFalse({id(one) for one in lists_in(told)} & {id(one) for one in lists_in(before)})
            kept = copy.deepcopy(before)
            scribble(told)
            self.assertEqual((ask(), before), (kept, kept))

    def test_changing_what_was_issued(self):
        desk = desk_with({"main": "a\n.page\nb"})
        told = desk.issue()
        numbers = [id(one) for one in lists_in(told)]
        self.assertEqual(len(numbers), len(set(numbers)))
        scribble(told)
        self.assertEqual(desk.issue(), [])
        desk.put_row("main", 0, "c")
        self.assertEqual([k for k, page in desk.issue()], [0])

    def test_what_was_told_stays(self):
        desk = desk_with({"main": "a"})
        shelf, pages, issued = desk.shelf(), desk.tell(), desk.issue()
        desk.put_row("main", 0, "b")
        desk.put_part("sub", "c")
        desk.issue()
        self.assertEqual((shelf, pages, issued), ({"main": "a"}, [(1, ["a", "", ""])], [(0, (1, ["a", "", ""]))]))

    def test_two_desks(self):
        one, other = desk_with({"main": "a"}), desk_with({"main": "a"})
        one.put_row("main", 0, "b")
        one.put_part("sub", "c")
        one.issue()
        self.assertEqual(other.shelf(), {"main": "a"})
        self.assertEqual(other.issue(), [(0, (1, ["a", "", ""]))])
        other.undo()
        self.refuse(NothingDone, other, "undo")
        self.assertEqual(one.shelf(), {"main": "b\na", "sub": "c"})
        self.assertEqual(Desk(FORM).shelf(), {})


ROWS = ("", "a", "bb #m", "&m ccc", "^m", "= h", "== #n h", "@n", ".page", ".odd", ".list", ".use sub", ".use main",
        ".foot f x &m", "~f", ".let s 1 $1 $1", "[s a ]", ".x", "dddd eeee ffff")


def some_deed(chance):
    name = chance.choice(("main", "main", "main", "sub", "top"))
    at = chance.randint(-1, 6)
    row = chance.choice(ROWS)
    return chance.choice((
        ("put_part", name, "\n".join(chance.sample(ROWS, chance.randint(1, 4)))), ("drop_part", name),
        ("put_row", name, at, row), ("put_row", name, at, row), ("put_row", name, at, row), ("cut_row", name, at),
        ("cut_row", name, at), ("undo",), ("issue",)))


class RowsOfDeeds(Checked):
    """Deeds by a chance that is the same each time; a list of shelves is kept beside the desk."""

    def test_the_desk_tells_what_a_new_desk_tells(self):
        met = {}
        for seed in range(300):
            chance = random.Random(seed)
            form = (chance.choice((9, 14, 30)), chance.choice((2, 5, 9)), chance.choice((0, 1, 9)), 9)
            desk = Desk(form)
            shelves, issued = [{}], []
            for each in range(chance.randint(1, 25)):
                deed = some_deed(chance)
                shelf, refusal = by_the_words(shelves, deed)
                told = self.done(desk, deed)
                if deed[0] == "issue":
                    issued = self.look_at_issue(desk, told, issued, form)
                elif refusal is not None:
                    self.assertIs(told, refusal, (shelves[-1], deed))
                elif deed[0] == "undo":
                    shelves.pop()
                else:
                    shelves.append(shelf)
                met[deed[0], refusal] = True
                self.assertEqual(desk.shelf(), shelves[-1])
                self.assertEqual(self.done(desk, ("tell",)), self.done(desk_with(shelves[-1], form), ("tell",)))
        self.assertEqual(len(met), 13)

    def done(self, desk, deed):
        """What the deed tells, or the class with which it is refused."""
        try:
            return getattr(desk, deed[0])(*deed[1:])
        except TrueleafError as refusal:
            return type(refusal)

    def look_at_issue(self, desk, told, issued, form):
        pages = self.done(desk, ("tell",))
        if isinstance(pages, type):
            self.assertIs(told, pages)
            return issued
        self.assertEqual(filed(issued, told), pages)
        changed = [k for k, (one, other) in enumerate(itertools.zip_longest(issued, pages)) if one != other]
        self.assertEqual([k for k, page in told], changed)
        return pages


def by_the_words(shelves, deed):
    """The shelf behind a deed, or the class with which it is refused: a pair of which one is None."""
    parts = dict(shelves[-1])
    if deed[0] in ("undo", "issue"):
        return None, NothingDone if deed[0] == "undo" and len(shelves) == 1 else None
    name = deed[1]
    if (name in parts) == (deed[0] == "put_part"):
        return None, Twice if name in parts else NoPart
    rows = parts.pop(name).split("\n") if name in parts else []
    if deed[0] == "put_part":
        rows = [deed[2]]
    elif deed[0] == "put_row":
        if deed[2] not in range(len(rows) + 1):
            return None, NoRow
        rows.insert(deed[2], deed[3])
    elif deed[0] == "cut_row":
        if deed[2] not in range(len(rows)):
            return None, NoRow
        rows.pop(deed[2])
    if deed[0] != "drop_part":
        parts[name] = "\n".join(rows)
    return parts, None


if __name__ == "__main__":
    unittest.main()
