"""Rising lines: turned back, under a line and over it; and how lines fall."""

from stepline.checks import MOST_PLACES, need_number
from stepline.errors import Falls
from stepline.lines import line_of, plain


def is_rising(line):
    """Whether a line nowhere falls."""
    values = plain(line)
    return values == sorted(values)


def rising_values(line, long):
    """The values of a line that is to be turned back to a length; refused where it falls, or the length is none."""
    if not is_rising(line):
        raise Falls("the line falls")
    need_number(long, 1, MOST_PLACES)
    return plain(line)


def many_below(values, number):
    """How many of the values are below a number."""
    return len([worth for worth in values if worth < number])


def turned(line, long):
    """A rising line turned back: at each number the first place whose value is no less, or the line's length."""
    values = rising_values(line, long)
    # The lesser values of a rising line are all ahead, so as many as there are is where the others begin.
    return line_of([many_below(values, number) for number in range(long)])


def turned_down(line, long):
    """A rising line turned back downward: at each number the last place whose value is no more, or -1."""
    values = rising_values(line, long)
    # No more than a number is below the next one, and the last one of those is one ahead of where the others begin.
    return line_of([many_below(values, number + 1) - 1 for number in range(long)])


def under(line):
    """The greatest rising line that is nowhere above a line."""
    values = plain(line)
    for place in range(len(values) - 2, -1, -1):
        values[place] = min(values[place], values[place + 1])
    return line_of(values)


def over(line):
    """The least rising line that is nowhere below a line."""
    values = plain(line)
    for place in range(1, len(values)):
        values[place] = max(values[place], values[place - 1])
    return line_of(values)


def fall(line):
    """By how much a line falls at the most, and at which two places; None, where it nowhere falls."""
    values = plain(line)
    most = None
    top = 0
    for place, worth in enumerate(values):
        if worth > values[top]:
            top = place
        drop = values[top] - worth
        # Only where it is more: of equal ones the place nearest to the beginning is told.
        if drop > (most[0] if most else 0):
            most = (drop, top, place)
    return most
