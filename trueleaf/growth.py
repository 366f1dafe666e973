"""Books grown from elder ones by a run of words put in, and places carried to them."""

from trueleaf.errors import NoGrowth


def growth(old, new):
    many = len(new[1]) - len(old[1])
    if old[0] != new[0] or many < 0:
        return None
    for at in range(len(old[1]) + 1):
        if grown_at(old[1], new[1], at, many):
            return (at, many)
    return None


def carried(old, new, places):
    run = growth(old, new)
    if run is None:
        raise NoGrowth("the newer book is not grown from the elder one")
    at = run[0]
    return list(places[:at]) + [(0, 0)] * run[1] + list(places[at:])


def grown_at(words, newer, at, many):
    for k, word in enumerate(words):
        if word_shifted(word, at, many) != newer[shifted(k, at, many)]:
            return False
    # One that is not kept would let the word ahead of it part from the kept one behind it, and stand earlier.
    if at < len(words) and words[at][1]:
        return all([word[1] for word in newer[at:at + many]])
    return True


def shifted(k, at, many):
    if k >= at:
        return k + many
    return k


def word_shifted(word, at, many):
    foot = [saying_shifted(saying, at, many) for saying in word[3]]
    return (word[0], word[1], saying_shifted(word[2], at, many), foot)


def saying_shifted(saying, at, many):
    if saying[0] == "text":
        return saying
    return (saying[0], shifted(saying[1], at, many))
