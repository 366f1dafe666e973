"""What several files of tests need: the lists within a value, calls that must be refused, small books."""

import copy
import itertools


def lists_in(value):
    """Every list and dict within a value, itself too, once for each time that it stands there."""
    found = []
    if isinstance(value, (list, dict)):
        found.append(value)
    if isinstance(value, dict):
        value = list(value.items())
    if isinstance(value, (list, tuple)):
        for one in value:
            found.extend(lists_in(one))
    return found


def scribble(value):
    """Change every list within a value."""
    for one in lists_in(value):
        one.append("scribbled")


def check_own(test, function, *given):
    """Point 2 of one call: what is handed in stays as it is, what is told holds no list of it and none twice,
    and changing what was told changes nothing that is handed in or told later. What was told is given back.
    """
    before = copy.deepcopy(given)
    told = function(*given)
    test.assertEqual(given, before)
    numbers = [id(one) for one in lists_in(told)]
    test.assertEqual(len(numbers), len(set(numbers)), "one list stands twice in what is told")
    test.assertFalse(set(numbers) & {id(one) for one in lists_in(given)}, "a list that was handed in is told")
    kept = copy.deepcopy(told)
    scribble(told)
    test.assertEqual(given, before)
    test.assertEqual(function(*given), kept)
    return kept


def check_refused(test, refusal, function, *given):
    """The call is refused with just this class, and changes nothing that is handed in."""
    before = copy.deepcopy(given)
    with test.assertRaises(refusal) as caught:
        function(*given)
    test.assertIs(type(caught.exception), refusal)
    test.assertEqual(given, before)


def word(lead=0, kept=False, saying=("text", "x"), foot=()):
    return (lead, kept, saying, list(foot))


def tall(rows, wide=5):
    """A foot of so many sayings: as many rows, where no two of them stand in one."""
    return [("text", "f" * wide)] * rows


def plain(*texts):
    """Words that say these texts, of lead 0, not kept, without feet."""
    return [word(saying=("text", text)) for text in texts]


def some_saying(chance, many):
    if many and chance.random() < 0.5:
        return (chance.choice(("page", "row")), chance.randrange(many))
    return ("text", "x" * chance.randint(1, 3))


def some_book(chance, most_words=4):
    """A small book, of pages and rows so few that all its layings can be looked at."""
    form = (chance.randint(2, 7), chance.randint(1, 3), chance.choice((0, 1, 8, 9, 98, 99)), chance.randint(1, 2))
    many = chance.randint(0, most_words)
    words = []
    for k in range(many):
        lead = chance.choice((0, 0, 0, 0, 1, 1, 2, 3, 4))
        foot = [some_saying(chance, many) for each in range(chance.choice((0, 0, 0, 1, 2)))]
        words.append((lead, chance.random() < 0.3, some_saying(chance, many), foot))
    return (form, words)


def all_places(form, pages):
    return list(itertools.product(range(pages), range(form[1])))


def all_layings(book, pages):
    for places in itertools.product(all_places(book[0], pages), repeat=len(book[1])):
        yield list(places)
