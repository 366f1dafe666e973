"""The numbers of heads."""

from trueleaf.signs import figures_of


def numbers_of(levels):
    counters = [0, 0, 0]
    numbers = []
    for level in levels:
        counters = counters[:level - 1] + [counters[level - 1] + 1] + [0] * (3 - level)
        numbers.append(".".join([figures_of(counter) for counter in counters[:level]]))
    return numbers
