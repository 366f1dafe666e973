"""Shorts: how much nodes come to, nodes put out in full, and one step of it.

A short is a tuple (name, count, nodes, row, calls); its row and its calls tell what it comes to,
so that sizes are told without putting out.
"""

from trueleaf.errors import BadCall, NoShort, TooLong
from trueleaf.trees import calls_in, copied

MOST_WORDS = 400
MOST_CALLS = 400
MOST_CALLS_OF_SHORT = 60


def size_of(shorts, nodes, count=0):
    return size_among(by_name(shorts), nodes, count)


def new_short(shorts, name, count, nodes):
    size = size_of(shorts, nodes, count)
    row = size[0]
    calls = size[1]
    # No short told ahead drops an argument, so a place that comes to nothing does not stand in the nodes.
    if 0 in row[1:]:
        raise BadCall(f"not every place of the short {name!r} stands in its nodes")
    if sum(row) > MOST_WORDS or calls > MOST_CALLS_OF_SHORT:
        raise TooLong(f"the short {name!r} comes to too much")
    return (name, count, copied(nodes), row, calls)


def put_out(shorts, nodes):
    named = by_name(shorts)
    size = size_among(named, nodes, 0)
    if size[0][0] > MOST_WORDS or size[1] > MOST_CALLS:
        raise TooLong(f"more than {MOST_WORDS} words or {MOST_CALLS} calls")
    return words_out(named, nodes, [])


def one_step(shorts, nodes, at):
    return stepped(by_name(shorts), nodes, at)


def by_name(shorts):
    return dict([(short[0], short) for short in shorts])


def short_called(named, call):
    name = call[1]
    if name not in named:
        raise NoShort(f"there is no short {name!r}")
    short = named[name]
    if len(call[2]) != short[1]:
        raise BadCall(f"a call of {name!r} has not as many arguments as the short has places")
    return short


# A call is looked at ahead of its arguments: so what is refused is the first one in the order of opening.
def size_among(named, nodes, count):
    row = [0] * (count + 1)
    calls = 0
    for node in nodes:
        if node[0] == "word":
            row[0] = row[0] + 1
        elif node[0] == "place":
            row[node[1]] = row[node[1]] + 1
        else:
            short = short_called(named, node)
            row[0] = row[0] + short[3][0]
            calls = calls + 1 + short[4]
            for k, argument in enumerate(node[2], start=1):
                size = size_among(named, argument, count)
                row = sum_of_rows(row, size[0], short[3][k])
                calls = calls + size[1]
    return (row, calls)


def sum_of_rows(row, other, times):
    return [number + times * more for number, more in zip(row, other)]


# The arguments are those of the call whose body the nodes are, put out already: lists of words.
def words_out(named, nodes, arguments):
    words = []
    for node in nodes:
        if node[0] == "word":
            words.append(node[1])
        elif node[0] == "place":
            words.extend(arguments[node[1] - 1])
        else:
            given = [words_out(named, argument, arguments) for argument in node[2]]
            words.extend(words_out(named, named[node[1]][2], given))
    return words


# Of the nodes behind the call that is exchanged at is below nought, so they are copied as they stand.
def stepped(named, nodes, at):
    told = []
    for node in nodes:
        if node[0] != "call":
            told.append(node)
        elif at == 0:
            told.extend(filled(named[node[1]][2], node[2]))
        else:
            told.append(("call", node[1], arguments_stepped(named, node[2], at - 1)))
        at = at - calls_in([node])
    return told


def arguments_stepped(named, arguments, at):
    told = []
    for argument in arguments:
        told.append(stepped(named, argument, at))
        at = at - calls_in(argument)
    return told


# An argument is copied anew for each place: no two lists of what is told are one.
def filled(nodes, arguments):
    told = []
    for node in nodes:
        if node[0] == "place":
            told.extend(copied(arguments[node[1] - 1]))
        elif node[0] == "call":
            told.append(("call", node[1], [filled(argument, arguments) for argument in node[2]]))
        else:
            told.append(node)
    return told
