"""Forms and books: what is let in, and what is refused.

No number stands in a refusal's words: one that is handed in may be too long for Python to write.
"""

from trueleaf.errors import BadForm, BadWord, TooLong

MOST_WORDS = 400
MOST_SAYINGS = 40
LONGEST_TEXT = 60
LAST_LEAD = 4


def check_form(form):
    check_number(form[0], 1, 200)
    check_number(form[1], 1, 60)
    check_number(form[2], 0, 10 ** 60)
    check_number(form[3], 1, 60)


def book_of(form, words):
    check_form(form)
    if len(words) > MOST_WORDS:
        raise TooLong(f"a book has at most {MOST_WORDS} words")
    for word in words:
        check_word(word, len(words))
    return (form, [(word[0], word[1], word[2], list(word[3])) for word in words])


def check_number(number, least, most):
    if number < least or number > most:
        raise BadForm(f"a number of the form is not from {least} to {most}")


def check_word(word, many):
    if word[0] < 0 or word[0] > LAST_LEAD:
        raise BadWord("a word's lead is none")
    if len(word[3]) > MOST_SAYINGS:
        raise BadWord(f"a foot has at most {MOST_SAYINGS} sayings")
    if not all([is_saying(saying, many) for saying in [word[2]] + word[3]]):
        raise BadWord("a saying is none")


def is_saying(saying, many):
    if saying[0] == "text":
        text = saying[1]
        return text != "" and len(text) <= LONGEST_TEXT and " " not in text
    return 0 <= saying[1] < many
