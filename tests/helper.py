"""What several files of tests need: the lists within a value, calls that must be refused, small books."""

import copy
import itertools

from trueleaf.truths import first_fault


def lists_in(value):
    """Every list and dict within a value, itself too, once for each time that it stands there."""
    found = []
    if isinstance(value, (list, dict)):
        found.append(value)
    if isinstance(value, dict):
        value = list(value.items())
    if isinstance(value, (list, tuple)):
        for one in value:
            found.extend(lists_in(one))
    return found


def scribble(value):
    """Change every list and dict within a value."""
    for one in lists_in(value):
        if isinstance(one, dict):
            one["scribbled"] = "scribbled"
        else:
            one.append("scribbled")


def check_own(test, function, *given):
    """Point 2 of one call: what is handed in stays as it is, what is told holds no list of it and none twice,
    and changing what was told changes nothing that is handed in or told later. What was told is given back.
    """
    before = copy.deepcopy(given)
    told = function(*given)
    test.assertEqual(given, before)
    numbers = [id(one) for one in lists_in(told)]
    test.assertEqual(len(numbers), len(set(numbers)), "one list stands twice in what is told")
    test.assertFalse(set(numbers) & {id(one) for one in lists_in(given)}, "a list that was handed in is told")
    kept = copy.deepcopy(told)
    scribble(told)
    test.assertEqual(given, before)
    test.assertEqual(function(*given), kept)
    return kept


def check_refused(test, refusal, function, *given):
    """The call is refused with just this class, and changes nothing that is handed in."""
    before = copy.deepcopy(given)
    with test.assertRaises(refusal) as caught:
        function(*given)
    test.assertIs(type(caught.exception), refusal)
    test.assertEqual(given, before)


def word(lead=0, kept=False, saying=("text", "x"), foot=()):
    return (lead, kept, saying, list(foot))


def tall(rows, wide=5):
    """A foot of so many sayings: as many rows, where no two of them stand in one."""
    return [("text", "f" * wide)] * rows


def plain(*texts):
    """Words that say these texts, of lead 0, not kept, without feet."""
    return [word(saying=("text", text)) for text in texts]


def some_saying(chance, many):
    if many and chance.random() < 0.5:
        return (chance.choice(("page", "row")), chance.randrange(many))
    return ("text", "x" * chance.randint(1, 3))


def some_book(chance, most_words=4):
    """A small book, of pages and rows so few that all its layings can be looked at."""
    form = (chance.randint(2, 7), chance.randint(1, 3), chance.choice((0, 1, 8, 9, 98, 99)), chance.randint(1, 2))
    many = chance.randint(0, most_words)
    words = []
    for k in range(many):
        lead = chance.choice((0, 0, 0, 0, 1, 1, 2, 3, 4))
        foot = [some_saying(chance, many) for each in range(chance.choice((0, 0, 0, 1, 2)))]
        words.append((lead, chance.random() < 0.3, some_saying(chance, many), foot))
    return (form, words)


def some_bounds(chance, book, pages):
    low = []
    for each in book[1]:
        low.append((chance.randrange(pages), chance.randrange(book[0][1])))
    return low if chance.random() < 0.4 else sorted(low)


def all_places(form, pages):
    return list(itertools.product(range(pages), range(form[1])))


def all_layings(book, pages):
    for places in itertools.product(all_places(book[0], pages), repeat=len(book[1])):
        yield list(places)


def true_layings(book, low):
    """All true layings of a small book of which no word stands earlier than bounds tell."""
    for places in all_layings(book, book[0][3]):
        if all(place >= bound for place, bound in zip(places, low)) and first_fault(book, places) is None:
            yield places


def first_of_all(layings):
    """For each word the earliest place that it has in any of the layings; None where there is no laying."""
    layings = list(layings)
    return [min(places) for places in zip(*layings)] if layings else None


def with_shifted(words, at, many):
    """The words with their pointing numbers as they are where so many words are put in ahead of word at."""
    def saying(one):
        return (one[0], one[1] + many) if one[0] != "text" and one[1] >= at else one
    return [(lead, kept, saying(own), [saying(one) for one in foot]) for lead, kept, own, foot in words]


def put_in(book, at, run):
    """The book grown by a run of words, whose pointing numbers are those of the grown book."""
    words = with_shifted(book[1], at, len(run))
    return (book[0], words[:at] + list(run) + words[at:])
