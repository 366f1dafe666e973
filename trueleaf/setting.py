"""Rows read and set as the words of a book.

A word is set first as it was read, a pair of a kind and a rest, since marks and heads behind it may tell what it says;
("entry", k) is a page that points to the number of head k.
"""

from trueleaf.books import MOST_WORDS
from trueleaf.errors import NoFoot, NoMark, TooLong, Twice
from trueleaf.heads import numbers_of
from trueleaf.reading import read_rows
from trueleaf.signs import figures_of

LEAPS = {"page": 3, "odd": 4}
POINTING = ("number", "page", "row")


def set_words(rows, form):
    read = read_rows(rows)
    things = read[0]
    setter = Setter([thing for thing in things if thing[0] == "head"], read[1])
    for thing in things:
        setter.set_thing(thing)
    setter.check_marks()
    return ((form, setter.words_told()), setter.marks, setter.heads)


class Setter:
    def __init__(self, all_heads, feet):
        self.numbers = numbers_of([head[1] for head in all_heads])
        self.titles = [head[2] for head in all_heads]
        self.feet = feet
        self.feet_set = 0
        self.words = []
        self.marks = {}
        self.heads = []
        # The lead that the next word gets by .page and .odd rows, or 0.
        self.leap = 0
        # Whether a head set the last word.
        self.behind_head = False

    def set_thing(self, thing):
        kind = thing[0]
        if kind in LEAPS:
            self.leap = max(self.leap, LEAPS[kind])
        elif kind == "head":
            self.set_head(len(self.heads))
        elif kind == "list":
            self.set_list()
        elif self.behind_head:
            self.set_run(1, thing[1], False)
        else:
            self.set_run(2, thing[1], False)

    def set_head(self, k):
        number = self.numbers[k]
        self.heads.append((number, len(self.words)))
        self.set_run(2, [("plain", number)] + self.titles[k], True)

    def set_list(self):
        lead = 2
        for k, number in enumerate(self.numbers):
            title = [word for word in self.titles[k] if word[0] != "mark"]
            self.set_run(lead, [("plain", number)] + title + [("entry", k)], False)
            lead = 1

    # The first word that is set has the lead, all others 0.
    def set_run(self, lead, words, by_head):
        for word in words:
            if word[0] == "mark":
                self.set_mark(word[1])
            else:
                self.set_word(lead, word)
                self.behind_head = by_head
                lead = 0

    def set_mark(self, name):
        if name in self.marks:
            raise Twice(f"there is a mark {name!r} already")
        self.marks[name] = len(self.words)

    def set_word(self, lead, word):
        foot = []
        if word[0] == "foot":
            foot = self.next_foot(word[1])
            word = foot[0]
        if len(self.words) == MOST_WORDS:
            raise TooLong(f"more than {MOST_WORDS} words")
        if self.leap > 0:
            lead = self.leap
            self.leap = 0
        # The words of a title are kept by this, too: a head set the word ahead of each.
        self.words.append((lead, self.behind_head and lead <= 2, word, foot))

    def next_foot(self, name):
        if name not in self.feet:
            raise NoFoot(f"there is no foot {name!r}")
        self.feet_set = self.feet_set + 1
        return [("plain", "(" + figures_of(self.feet_set) + ")")] + self.feet[name]

    def check_marks(self):
        for name, k in self.marks.items():
            if k == len(self.words):
                raise NoMark(f"behind the mark {name!r} no word is set")
        # Feet are looked at as they were told, for some may hang on no word.
        words = [word[2] for word in self.words]
        for text in self.feet.values():
            words.extend(text)
        for kind, rest in words:
            if kind in POINTING and rest not in self.marks:
                raise NoMark(f"there is no mark {rest!r}")

    def words_told(self):
        told = []
        for lead, kept, word, foot in self.words:
            told.append((lead, kept, self.saying_of(word), [self.saying_of(one) for one in foot]))
        return told

    def saying_of(self, word):
        kind = word[0]
        rest = word[1]
        if kind == "plain":
            return ("text", rest)
        if kind == "entry":
            return ("page", self.heads[rest][1])
        if kind == "number":
            return ("text", self.number_at(self.marks[rest]))
        return (kind, self.marks[rest])

    def number_at(self, k):
        number = "0"
        for text, at in self.heads:
            if at <= k:
                number = text
        return number
