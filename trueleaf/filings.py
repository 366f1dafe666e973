"""Pages to be exchanged, so that elder ones become newer ones."""


def filings_between(old, new):
    told = []
    for k in range(max(len(old), len(new))):
        if k >= len(new):
            told.append((k, None))
        elif k >= len(old) or old[k] != new[k]:
            told.append((k, page_copied(new[k])))
    return told


def filed(pages, filings):
    exchanged = dict(filings)
    told = []
    for k in range(len(pages) + len(filings)):
        page = None
        if k in exchanged:
            page = exchanged[k]
        elif k < len(pages):
            page = pages[k]
        if page is not None:
            told.append(page_copied(page))
    return told


def page_copied(page):
    return (page[0], list(page[1]))
