"""True layings: the first fault of a laying, and the earlier one of two."""

from trueleaf.places import behind, first_from
from trueleaf.widths import foot_high, together, wide_of


def first_fault(book, places):
    form = book[0]
    words = book[1]
    wides = [wide_of(form, word[2], places) for word in words]
    highs = [foot_high(form, word[3], places) for word in words]
    for k in range(len(words)):
        kind = fault_at(book, places, wides, highs, k)
        if kind is not None:
            return (kind, k)
    return None


def earlier_of(one, other):
    return [min(place, second) for place, second in zip(one, other)]


def fault_at(book, places, wides, highs, k):
    form = book[0]
    word = book[1][k]
    if places[k][0] >= form[3]:
        return "page"
    if not lead_holds(form, places, word[0], k):
        return "lead"
    if together(wides[stretch_at_place(places, k):k + 1]) > form[0]:
        return "wide"
    if places[k][1] + 1 + sum(highs[stretch_on_page(places, k):k + 1]) > form[1]:
        return "high"
    if k > 0 and word[1] and places[k - 1][0] != places[k][0]:
        return "kept"
    return None


def lead_holds(form, places, lead, k):
    if first_from(form, places[k], lead) != places[k]:
        return False
    return k == 0 or places[k] >= behind(form, places[k - 1], lead)


# The number of the first word of the longest stretch that ends with word k and all stands at its place.
def stretch_at_place(places, k):
    first = k
    while first > 0 and places[first - 1] == places[k]:
        first = first - 1
    return first


def stretch_on_page(places, k):
    first = k
    while first > 0 and places[first - 1][0] == places[k][0]:
        first = first - 1
    return first
