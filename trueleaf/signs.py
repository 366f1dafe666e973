"""Signs, words and names: what a row is made of."""

LETTERS = "abcdefghijklmnopqrstuvwxyz"
FIGURES = "0123456789"
LONGEST_NAME = 12

KINDS = {"#": "mark", "@": "number", "&": "page", "^": "row", "~": "foot"}


def words_in(row):
    # A split at the blank itself: a split without it would part words at other signs, too.
    return [word for word in row.split(" ") if word != ""]


def is_name(word):
    if word == "" or len(word) > LONGEST_NAME:
        return False
    # Asked of these signs by name, for Python's own letters and figures are many more.
    return word[0] in LETTERS and all([sign in LETTERS or sign in FIGURES for sign in word])


def figures_of(number):
    return str(number)


def kind_of(word):
    first = word[:1]
    rest = word[1:]
    if first in KINDS and is_name(rest):
        return (KINDS[first], rest)
    if first == "!" and rest != "":
        return ("plain", rest)
    return ("plain", word)
