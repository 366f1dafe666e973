"""Places, and where a word may stand by its lead.

A place is a tuple (page, row); tuples go by pages, then by rows, as places do.
"""


def later(one, other):
    return max(one, other)


def behind(form, place, lead):
    if lead == 0:
        return place
    if lead == 1:
        return rows_on(form, place, 1)
    if lead == 2:
        return rows_on(form, place, 2)
    return first_from(form, next_top(place), lead)


def first_from(form, place, lead):
    if lead == 4 and (form[2] + place[0]) % 2 == 0:
        return next_top(place)
    return place


def rows_on(form, place, rows):
    row = place[1] + rows
    if row >= form[1]:
        return next_top(place)
    return (place[0], row)


def next_top(place):
    return (place[0] + 1, 0)
