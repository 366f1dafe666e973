"""The rows of a text read one by one: what they set, and the shorts and feet that they tell.

Told of rows is a pair (things, feet): things is a list of ("page",), ("odd",), ("list",), ("head", level, words) and
("paragraph", words), in order; feet is a dict from feet's names to words. Words are put out and read as pairs.
"""

from trueleaf.books import LONGEST_TEXT
from trueleaf.errors import BadRow, BadWord, TooLong, Twice
from trueleaf.shorts import new_short, put_out
from trueleaf.signs import FIGURES, is_name, kind_of, words_in
from trueleaf.trees import tree_of

ALONE = (".page", ".odd", ".list")
HEADS = ("=", "==", "===")
# One less than a foot may have sayings: the first of them is its number.
MOST_FOOT_WORDS = 39


def read_rows(rows):
    reader = Reader()
    for row in rows:
        reader.read_row(words_in(row))
    return (reader.things, reader.feet)


class Reader:
    def __init__(self):
        self.shorts = []
        self.feet = {}
        self.things = []
        # Whether the next words of a paragraph go on with the one that was read last.
        self.going_on = False

    def read_row(self, words):
        if words == []:
            self.going_on = False
            return
        first = words[0]
        if first == ".let":
            self.read_let(words)
        elif first == ".foot":
            self.read_foot(words)
        elif first in ALONE:
            self.read_alone(words)
        elif first in HEADS:
            self.add_thing(("head", len(first), self.words_out(words[1:], ("foot",))))
        elif first[0] == ".":
            raise BadRow(f"no row begins with {first!r}")
        else:
            self.read_words(words)

    def read_let(self, words):
        if len(words) < 3 or not is_name(words[1]) or not is_figure(words[2]):
            raise BadRow("a .let row tells a name and a count of one figure")
        name = words[1]
        if name in [short[0] for short in self.shorts]:
            raise Twice(f"there is a short {name!r} already")
        count = int(words[2])
        self.shorts.append(new_short(self.shorts, name, count, tree_of(words[3:], count)))

    def read_foot(self, words):
        if len(words) < 2 or not is_name(words[1]):
            raise BadRow("a .foot row tells a name")
        name = words[1]
        if name in self.feet:
            raise Twice(f"there is a foot {name!r} already")
        text = self.words_out(words[2:], ("mark", "foot"))
        if len(text) > MOST_FOOT_WORDS:
            raise TooLong(f"the foot {name!r} has more than {MOST_FOOT_WORDS} words")
        self.feet[name] = text

    def read_alone(self, words):
        first = words[0]
        if len(words) > 1:
            raise BadRow(f"nothing stands behind {first!r}")
        self.add_thing((first[1:],))

    def read_words(self, words):
        read = self.words_out(words, ())
        if self.going_on:
            self.things[-1][1].extend(read)
        else:
            self.add_thing(("paragraph", read))
            self.going_on = True

    def add_thing(self, thing):
        self.things.append(thing)
        self.going_on = False

    def words_out(self, words, barred):
        read = [kind_of(word) for word in put_out(self.shorts, tree_of(words))]
        for kind, rest in read:
            if kind in barred:
                raise BadWord(f"no {kind} may stand there")
            if kind == "plain" and len(rest) > LONGEST_TEXT:
                raise BadWord(f"a word has more than {LONGEST_TEXT} signs")
        return read


def is_figure(word):
    return len(word) == 1 and word in FIGURES
