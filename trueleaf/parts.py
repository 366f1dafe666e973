"""Parts of a shelf, put together by their .use rows."""

from trueleaf.errors import BadRow, NoPart, Ring, TooLong
from trueleaf.signs import is_name, words_in

MOST_ROWS = 400


def rows_in(text):
    return text.split("\n")


def joined(parts, name):
    if name not in parts:
        raise NoPart(f"there is no part {name!r}")
    counts = {}
    look_through(parts, [name], counts)
    if counts[name] > MOST_ROWS:
        raise TooLong(f"the part {name!r} comes to more than {MOST_ROWS} rows")
    return put_together(parts, name)


def ring_from(parts, name):
    if name not in parts:
        return None
    return ring_below(parts, [name], {})


def is_use(words):
    return words != [] and words[0] == ".use"


def is_good_use(words):
    return len(words) == 2 and is_name(words[1])


# The rows are counted here, not put together: a few parts that bring one another
# many times come to more rows than could ever be written down.
# A part stands in counts once it has been looked through to its end.
def look_through(parts, path, counts):
    rows = 0
    for row in rows_in(parts[path[-1]]):
        words = words_in(row)
        if is_use(words):
            used = used_part(parts, words, path)
            if used not in counts:
                look_through(parts, path + [used], counts)
            rows = rows + counts[used]
        else:
            rows = rows + 1
    counts[path[-1]] = rows


def used_part(parts, words, path):
    if not is_good_use(words):
        raise BadRow("a .use row has just two words, the second a name")
    used = words[1]
    if used in path:
        raise Ring(f"the part {used!r} brings itself")
    if used not in parts:
        raise NoPart(f"there is no part {used!r}")
    return used


def put_together(parts, name):
    told = []
    for k, row in enumerate(rows_in(parts[name])):
        words = words_in(row)
        if is_use(words):
            told.extend(put_together(parts, words[1]))
        else:
            told.append((name, k, row))
    return told


# A part that was left without a ring leads to none by any other way either,
# so done keeps it from being gone into again.
def ring_below(parts, path, done):
    for used in parts_used(parts, path[-1]):
        if used in path:
            return path[path.index(used):]
        if used not in done:
            ring = ring_below(parts, path + [used], done)
            if ring is not None:
                return ring
    done[path[-1]] = True
    return None


def parts_used(parts, name):
    told = []
    for row in rows_in(parts[name]):
        words = words_in(row)
        if is_use(words) and is_good_use(words) and words[1] in parts:
            told.append(words[1])
    return told
