"""Bounds, the five reasons that raise them, and papers of raises.

What a reason tells for a word is a place, or None; it reaches that place where it is later than the word's bound.
"""

from trueleaf.errors import BadPaper
from trueleaf.places import behind, first_from, later
from trueleaf.widths import foot_high, together, wide_of


def first_bounds(book):
    return [(0, 0)] * len(book[1])


def reach(book, low, kind, i, j):
    place = told_by_kind(book, low, kind, i, j)
    if place is None or place <= low[i]:
        return None
    return place


def raised(book, low, i):
    bound = low[i]
    for place in all_told(book, low, i):
        if place is not None:
            bound = later(bound, place)
    return bound


def walked(book, low, paper):
    bounds = list(low)
    for kind, i, j, place in paper:
        if i < 0 or i >= len(bounds):
            raise BadPaper("a raise is of a word that the book does not have")
        reached = reach(book, bounds, kind, i, j)
        if reached is None or reached != place:
            raise BadPaper("a raise tells another place than its reason reaches")
        bounds[i] = reached
    return bounds


def told_by_kind(book, low, kind, i, j):
    if kind == "behind" and j == i - 1:
        return told_behind(book, low, i)
    if kind == "wide" and 0 <= j < i:
        return told_wide(book, low, j, together(wides_of(book, low, j, i)))
    if kind == "high" and 0 <= j <= i:
        return told_high(book, low, i, j, sum(highs_of(book, low, j, i)))
    if kind == "kept" and j == i + 1:
        return told_kept(book, low, i)
    if kind == "never" and j == i:
        return told_never(book, low, i)
    return None


# Each word is measured but once, though it stands in a stretch for each j.
def all_told(book, low, i):
    told = [told_behind(book, low, i), told_kept(book, low, i), told_never(book, low, i)]
    wides = wides_of(book, low, 0, i)
    for j in range(i):
        told.append(told_wide(book, low, j, together(wides[j:])))
    highs = highs_of(book, low, 0, i)
    for j in range(i + 1):
        told.append(told_high(book, low, i, j, sum(highs[j:])))
    return told


def wides_of(book, low, j, i):
    return [wide_of(book[0], word[2], low) for word in book[1][j:i + 1]]


def highs_of(book, low, j, i):
    return [foot_high(book[0], word[3], low) for word in book[1][j:i + 1]]


def told_behind(book, low, i):
    form = book[0]
    lead = book[1][i][0]
    place = low[i]
    if i > 0:
        place = later(place, behind(form, low[i - 1], lead))
    return first_from(form, place, lead)


# Here wide is the width of words j to i together.
def told_wide(book, low, j, wide):
    form = book[0]
    if wide <= form[0]:
        return None
    return behind(form, low[j], 1)


# Here high is the height of the feet of words j to i together.
def told_high(book, low, i, j, high):
    page = low[i][0]
    if low[j][0] < page or low[i][1] + 1 + high <= book[0][1]:
        return None
    return (page + 1, 0)


def told_kept(book, low, i):
    words = book[1]
    j = i + 1
    if j == len(words) or not words[j][1]:
        return None
    return (low[j][0], 0)


def told_never(book, low, i):
    form = book[0]
    word = book[1][i]
    if wide_of(form, word[2], low) <= form[0] and foot_high(form, word[3], low) + 1 <= form[1]:
        return None
    return (form[3], 0)
