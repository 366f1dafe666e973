"""Books settled: bounds raised, reason by reason, until they are the first true laying, or stand beyond the last page.

The words are gone through in order, so that of those ahead of a word none has a bound behind the next one's; what a
word and its foot measure is looked up anew only behind such a walk. Bounds only go up and nothing gets narrower or
lower by it: so a reason found with the elder measures holds with the newer ones, too.
"""

from trueleaf.bounds import first_bounds, highs_of, reach, wides_of


def settle(book, low=None):
    bounds = first_bounds(book)
    if low is not None:
        bounds = list(low)
    paper = []
    if any([stands_beyond(book, place) for place in bounds]):
        return (None, paper)
    sizes = sizes_under(book, bounds)
    start = 0
    while start < len(bounds):
        if not raise_from(book, sizes, bounds, paper, start):
            return (None, paper)
        newer = sizes_under(book, bounds)
        start = first_unlike(sizes, newer)
        sizes = newer
    return (bounds, paper)


def stands_beyond(book, place):
    return place[0] >= book[0][3]


# Of each word the pair of its own width and its foot's height.
def sizes_under(book, bounds):
    last = len(bounds) - 1
    return list(zip(wides_of(book, bounds, 0, last), highs_of(book, bounds, 0, last)))


# The number of the first word that measures otherwise now: no reason reaches anything for those ahead of it.
def first_unlike(sizes, newer):
    k = 0
    while k < len(sizes) and sizes[k] == newer[k]:
        k = k + 1
    return k


# Told is whether all bounds still stand on pages that there may be.
def raise_from(book, sizes, bounds, paper, start):
    i = start
    while i < len(bounds):
        raise_word(book, sizes, bounds, paper, i)
        if stands_beyond(book, bounds[i]):
            return False
        i = raise_kept(book, bounds, paper, i)
    return True


def raise_word(book, sizes, bounds, paper, i):
    reason = reason_for(book, sizes, bounds, i)
    while reason is not None:
        raise_by(book, bounds, paper, reason[0], i, reason[1])
        reason = reason_for(book, sizes, bounds, i)


def raise_by(book, bounds, paper, kind, i, j):
    place = reach(book, bounds, kind, i, j)
    paper.append((kind, i, j, place))
    bounds[i] = place


# Words that have come to an earlier page than a kept one behind them are brought along.
# Told is the number of the word to go on with: the first one brought along, or the next one.
def raise_kept(book, bounds, paper, i):
    first = i
    while first > 0 and reach(book, bounds, "kept", first - 1, first) is not None:
        first = first - 1
        raise_by(book, bounds, paper, "kept", first, first + 1)
    if first < i:
        return first
    return i + 1


# A kind and a second word by which word i gets a later bound, or None.
def reason_for(book, sizes, bounds, i):
    form = book[0]
    if stands_beyond(book, bounds[i]):
        return None
    if sizes[i][0] > form[0] or sizes[i][1] + 1 > form[1]:
        return ("never", i)
    if reach(book, bounds, "behind", i, i - 1) is not None:
        return ("behind", i - 1)
    j = too_wide_from(form, sizes, bounds, i)
    if j is not None:
        return ("wide", j)
    j = too_high_from(form, sizes, bounds, i)
    if j is not None:
        return ("high", j)
    return None


# Only words at the very place of word i can bring it to a later one by their next row.
def too_wide_from(form, sizes, bounds, i):
    wide = sizes[i][0]
    j = i - 1
    while j >= 0 and bounds[j] == bounds[i]:
        wide = wide + 1 + sizes[j][0]
        if wide > form[0]:
            return j
        j = j - 1
    return None


def too_high_from(form, sizes, bounds, i):
    page = bounds[i][0]
    high = bounds[i][1] + 1
    j = i
    while j >= 0 and bounds[j][0] == page:
        high = high + sizes[j][1]
        if high > form[1]:
            return j
        j = j - 1
    return None
