"""Rising lines between a low line and a high one: how many there are, and their numbers."""

from stepline.asking import below_at
from stepline.checks import need_line, need_number, need_same_length
from stepline.errors import NoWay
from stepline.joining import paired
from stepline.lines import line_of, plain
from stepline.turning import is_rising


def lowest_value(low):
    """A value that no line that is nowhere below a low line is below."""
    return min(plain(low))


def ways_on(low, high):
    """By place and then by value: in how many ways a rising line goes on from the place, no lower there than the value.

    The values are those from the lowest value on, up to one that is above all values of both lines.
    """
    limits = paired(low, high)
    bottom = lowest_value(low)
    top = max(plain(low) + plain(high))
    further = {worth: 1 for worth in range(bottom, top + 1)}
    table = []
    for least, greatest in reversed(limits):
        ways = {top + 1: 0}
        for worth in range(top, bottom - 1, -1):
            ways[worth] = ways[worth + 1] + (further[worth] if least <= worth <= greatest else 0)
        table.append(ways)
        further = ways
    return table[::-1]


def how_many_rising(low, high):
    """How many rising lines there are between two lines."""
    return ways_on(low, high)[0][lowest_value(low)]


def rising_at(low, high, number):
    """The rising line between two lines that has a number."""
    table = ways_on(low, high)
    worth = lowest_value(low)
    need_number(number, 0, table[0][worth] - 1)
    left = number
    values = []
    for ways in table:
        # All lines that have this value here stand ahead of those that have a greater one.
        while left >= ways[worth] - ways[worth + 1]:
            left -= ways[worth] - ways[worth + 1]
            worth += 1
        values.append(worth)
    return line_of(values)


def is_between(low, high, line):
    """Whether a line is a rising one between two lines of one length."""
    if line[0] != low[0] or not is_rising(line):
        return False
    return below_at(line, low) is None and below_at(high, line) is None


def number_of(low, high, line):
    """The number that a rising line between two lines has."""
    need_same_length(low, high)
    need_line(line)
    if not is_between(low, high, line):
        raise NoWay("this is no rising line between the two lines")
    number = 0
    ahead = lowest_value(low)
    for ways, worth in zip(ways_on(low, high), plain(line)):
        number += ways[ahead] - ways[worth]
        ahead = worth
    return number
