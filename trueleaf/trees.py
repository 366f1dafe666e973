"""Rows of words read as nodes, and nodes written back as words."""

from trueleaf.errors import BadCall, Deep
from trueleaf.signs import FIGURES, figures_of, is_name

MOST_DEEP = 20


def tree_of(words, count=None):
    nodes = []
    # Of each call that is not closed yet: its name, its arguments up to its last bar,
    # and the nodes that it stands behind.
    pending = []
    for word in words:
        if opens_call(word):
            if len(pending) == MOST_DEEP:
                raise Deep(f"a call stands in more than {MOST_DEEP} calls")
            pending.append((word[1:], [], nodes))
            nodes = []
        elif word == "|" and pending != []:
            pending[-1][1].append(nodes)
            nodes = []
        elif word == "]" and pending != []:
            nodes = with_closed(pending.pop(), nodes)
        else:
            nodes.append(node_of(word, count))
    if pending != []:
        raise BadCall("the row ends within a call")
    return nodes


def written(nodes):
    words = []
    for node in nodes:
        if node[0] == "word":
            words.append(node[1])
        elif node[0] == "place":
            words.append("$" + figures_of(node[1]))
        else:
            words.extend(call_written(node))
    return words


# The nodes with lists of their own at every depth; words and places, which hold no list, stay as they are.
def copied(nodes):
    told = []
    for node in nodes:
        if node[0] == "call":
            told.append(("call", node[1], [copied(argument) for argument in node[2]]))
        else:
            told.append(node)
    return told


def calls_in(nodes):
    calls = 0
    for node in nodes:
        if node[0] == "call":
            calls = calls + 1 + sum([calls_in(argument) for argument in node[2]])
    return calls


def opens_call(word):
    return word[:1] == "[" and is_name(word[1:])


def with_closed(call, last):
    arguments = call[1]
    nodes = call[2]
    # A call with nothing between opening and closing has no argument, not an empty one.
    if arguments != [] or last != []:
        arguments.append(last)
    nodes.append(("call", call[0], arguments))
    return nodes


def node_of(word, count):
    if count is None or not looks_like_place(word):
        return ("word", word)
    k = int(word[1])
    if k == 0 or k > count:
        raise BadCall(f"{word!r} is none of the places")
    return ("place", k)


def looks_like_place(word):
    return len(word) == 2 and word[0] == "$" and word[1] in FIGURES


def call_written(call):
    words = ["[" + call[1]]
    for k, argument in enumerate(call[2]):
        if k > 0:
            words.append("|")
        words.extend(written(argument))
    words.append("]")
    return words
