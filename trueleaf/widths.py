"""What sayings say in a laying, how wide they are, and how high feet are."""

from trueleaf.signs import figures_of


def said(form, saying, places):
    if saying[0] == "text":
        return saying[1]
    place = places[saying[1]]
    if saying[0] == "page":
        return figures_of(form[2] + place[0])
    return figures_of(place[0] * form[1] + place[1] + 1)


def wide_of(form, saying, places):
    return len(said(form, saying, places))


# How wide words of these widths are together, with one blank between two.
def together(wides):
    return sum(wides) + len(wides) - 1


def foot_rows(form, foot, places):
    rows = []
    for saying in foot:
        text = said(form, saying, places)
        if rows != [] and len(rows[-1]) + 1 + len(text) <= form[0]:
            rows[-1] = rows[-1] + " " + text
        else:
            rows.append(text)
    return rows


def foot_high(form, foot, places):
    rows = foot_rows(form, foot, places)
    # Only a saying that is wider than wide by itself makes a row wider.
    if any([len(row) > form[0] for row in rows]):
        return form[1]
    return min(len(rows), form[1])
