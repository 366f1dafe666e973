"""What several files of tests need: the lists within a value, and calls that must be refused."""

import copy


def lists_in(value):
    """Every list and dict within a value, itself too, once for each time that it stands there."""
    found = []
    if isinstance(value, (list, dict)):
        found.append(value)
    if isinstance(value, dict):
        value = list(value.items())
    if isinstance(value, (list, tuple)):
        for one in value:
            found.extend(lists_in(one))
    return found


def scribble(value):
    """Change every list within a value."""
    for one in lists_in(value):
        one.append("scribbled")


def check_own(test, function, *given):
    """Point 2 of one call: what is handed in stays as it is, what is told holds no list of it and none twice,
    and changing what was told changes nothing that is handed in or told later. What was told is given back.
    """
    before = copy.deepcopy(given)
    told = function(*given)
    test.assertEqual(given, before)
    numbers = [id(one) for one in lists_in(told)]
    test.assertEqual(len(numbers), len(set(numbers)), "one list stands twice in what is told")
    test.assertFalse(set(numbers) & {id(one) for one in lists_in(given)}, "a list that was handed in is told")
    kept = copy.deepcopy(told)
    scribble(told)
    test.assertEqual(given, before)
    test.assertEqual(function(*given), kept)
    return kept


def check_refused(test, refusal, function, *given):
    """The call is refused with just this class, and changes nothing that is handed in."""
    before = copy.deepcopy(given)
    with test.assertRaises(refusal) as caught:
        function(*given)
    test.assertIs(type(caught.exception), refusal)
    test.assertEqual(given, before)
