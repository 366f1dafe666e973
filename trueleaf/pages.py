"""Pages: the rows of a book in a laying, and a part of a shelf told in pages."""

from trueleaf.errors import NoLaying
from trueleaf.parts import joined
from trueleaf.setting import set_words
from trueleaf.settle import settle
from trueleaf.widths import foot_rows, said


def pages_of(book, places):
    form = book[0]
    if places == []:
        return []
    return [(form[2] + page, page_rows(book, places, page)) for page in range(places[-1][0] + 1)]


def tell_pages(parts, name, form):
    rows = [told[2] for told in joined(parts, name)]
    book = set_words(rows, form)[0]
    laying = settle(book)[0]
    if laying is None:
        raise NoLaying("the words have no true laying")
    return pages_of(book, laying)


def page_rows(book, places, page):
    form = book[0]
    texts = [[] for row in range(form[1])]
    feet = []
    for word, place in zip(book[1], places):
        if place[0] == page:
            texts[place[1]].append(said(form, word[2], places))
            feet.extend(foot_rows(form, word[3], places))
    rows = [" ".join(row) for row in texts]
    return rows[:len(rows) - len(feet)] + feet
