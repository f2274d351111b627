"""What stretches of lines have, and where lines have it."""

from stepline.checks import need_line, need_place, need_stretch, need_value
from stepline.joining import paired
from stepline.lines import level_stretches, line_of, plain


def stretch_values(line, first, last):
    """The list of the values of a stretch."""
    need_line(line)
    need_stretch(first, last, line[0])
    return plain(line)[first:last + 1]


def total(line, first, last):
    """The total of the values of a stretch."""
    return sum(stretch_values(line, first, last))


def bounds(line, first, last):
    """The least and the greatest value of a stretch."""
    values = stretch_values(line, first, last)
    return (min(values), max(values))


def first_held(held, start):
    """The first place from one on at which a list has True, or None."""
    for place in range(start, len(held)):
        if held[place]:
            return place
    return None


def first_from(line, place, value):
    """The first place from one on whose value is no less than one, or None."""
    need_line(line)
    need_place(place, line[0])
    need_value(value)
    return first_held([worth >= value for worth in plain(line)], place)


def held_stretches(held):
    """The stretches, as long as can be, of places at which a list has True."""
    return [(first, last) for first, last, holds in level_stretches(held) if holds]


def stretches(line, low, high):
    """The stretches, as long as can be, of values from one to another one."""
    need_line(line)
    need_value(low)
    need_value(high)
    return held_stretches([low <= worth <= high for worth in plain(line)])


def how_often(line):
    """Each value that a line has, with how many places have it."""
    counts = {}
    for worth in plain(line):
        counts[worth] = counts.get(worth, 0) + 1
    return sorted(counts.items())


def below_at(one, other):
    """The first place at which the one line is below the other one, or None."""
    return first_held([left < right for left, right in paired(one, other)], 0)


def ordered(line):
    """The line of the same values, rising."""
    return line_of(sorted(plain(line)))
