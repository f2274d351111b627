"""Hills and dales of lines, water on lines, and the places that are seen from the left."""

from stepline.joining import lesser, mirrored
from stepline.lines import level_stretches, plain
from stepline.turning import over


def is_top(values, first, last):
    """Whether a list has less right ahead of and right behind a stretch of one value than in it."""
    beside = values[:first][-1:] + values[last + 1:][:1]
    return all(worth < values[first] for worth in beside)


def tops(values):
    """The stretches of one value of a list, as long as can be, beside which it has less."""
    return [piece for piece in level_stretches(values) if is_top(values, piece[0], piece[1])]


def hills(line):
    """The hills of a line, as tuples (first, last, value)."""
    return tops(plain(line))


def dales(line):
    """The dales of a line, as tuples (first, last, value)."""
    # With its values the other way round a line has hills just where it has dales.
    return [(first, last, -worth) for first, last, worth in tops([-worth for worth in plain(line)])]


def flooded(line):
    """The line that has at each place the value up to which water stands there."""
    # The least rising line over a line has at each place the greatest value from the first place to it.
    return lesser(over(line), mirrored(over(mirrored(line))))


def water(line):
    """How much water stands on a line, all together."""
    return sum(plain(flooded(line))) - sum(plain(line))


def seen_from(line):
    """The places of a line that are seen from the left."""
    # The greatest value so far becomes another one just at the places whose value is above all ahead.
    return [place for place, worth in over(line)[1]]
