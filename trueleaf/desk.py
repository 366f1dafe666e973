"""The desk: a shelf of parts on which deeds are done and taken back, and whose pages are told and issued."""

from trueleaf.books import check_form
from trueleaf.errors import BadName, NoPart, NoRow, NothingDone, TooLong, Twice
from trueleaf.filings import filings_between
from trueleaf.pages import tell_pages
from trueleaf.parts import rows_in
from trueleaf.signs import is_name

MOST_PARTS = 20
MOST_ROWS = 200
TOLD_PART = "main"


class Desk:
    def __init__(self, form):
        check_form(form)
        self.form = form
        self.parts = {}
        # The shelf as it was ahead of each deed that stands.
        self.elder = []
        self.issued = []

    def put_part(self, name, text):
        if not is_name(name):
            raise BadName(f"{name!r} is no name")
        if name in self.parts:
            raise Twice(f"there is a part {name!r} already")
        if len(self.parts) >= MOST_PARTS:
            raise TooLong(f"there are {MOST_PARTS} parts already")
        self.do_deed()
        self.parts[name] = text

    def drop_part(self, name):
        self.rows_of(name)
        self.do_deed()
        self.parts.pop(name)

    def put_row(self, name, at, row):
        rows = self.rows_of(name)
        if at < 0 or at > len(rows):
            raise NoRow(f"no row can be put there in the part {name!r}")
        if len(rows) >= MOST_ROWS:
            raise TooLong(f"the part {name!r} has {MOST_ROWS} rows already")
        self.do_deed()
        self.parts[name] = "\n".join(rows[:at] + [row] + rows[at:])

    def cut_row(self, name, at):
        rows = self.rows_of(name)
        if at < 0 or at >= len(rows):
            raise NoRow(f"there is no such row in the part {name!r}")
        self.do_deed()
        self.parts[name] = "\n".join(rows[:at] + rows[at + 1:])

    def undo(self):
        if self.elder == []:
            raise NothingDone("there is no deed to be taken back")
        self.parts = self.elder.pop()

    def shelf(self):
        return dict(self.parts)

    def tell(self):
        return tell_pages(self.parts, TOLD_PART, self.form)

    def issue(self):
        pages = self.tell()
        told = filings_between(self.issued, pages)
        self.issued = pages
        return told

    def rows_of(self, name):
        if name not in self.parts:
            raise NoPart(f"there is no part {name!r}")
        return rows_in(self.parts[name])

    def do_deed(self):
        self.elder.append(self.parts)
        self.parts = dict(self.parts)
