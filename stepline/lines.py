"""Lines, the lists of their values, and the rows that form them."""

from stepline.checks import MOST_PLACES, are_rows, are_values, is_value, need_length, need_line, need_place
from stepline.errors import NoRows, TooGreat


def level_stretches(things):
    """The stretches of a list that have one thing, as long as can be, as tuples (first, last, thing)."""
    found = []
    for place, thing in enumerate(things):
        if found and found[-1][2] == thing:
            found[-1] = (found[-1][0], place, thing)
        else:
            found.append((place, place, thing))
    return found


def line_of(values):
    """The line of a list that is known to be one of 1 to 60 values."""
    return (len(values), tuple((first, worth) for first, last, worth in level_stretches(values)))


def fitted(values):
    """The line of a list of whole numbers; refused where these are too great, or too many."""
    if len(values) > MOST_PLACES:
        raise TooGreat("the line would be too long")
    if not all(is_value(worth) for worth in values):
        raise TooGreat("a value would not be one")
    return line_of(values)


def plain(line):
    """The list of all values of a line, place by place."""
    need_line(line)
    long, steps = line
    ends = [place for place, worth in steps[1:]] + [long]
    values = []
    for (place, worth), end in zip(steps, ends):
        values.extend([worth] * (end - place))
    return values


def told(values):
    """The line that has these values, place by place."""
    if not are_values(values):
        raise NoRows("this is no list of 1 to 60 values")
    return line_of(values)


def formed(long, rows):
    """The line of a length that is formed of rows."""
    need_length(long)
    if not are_rows(rows, long):
        raise NoRows("this is no list of up to 60 rows of places of the line and values")
    starts = {}
    for place, worth in rows:
        starts[place] = worth
    values = []
    now = 0
    for place in range(long):
        now = starts.get(place, now)
        values.append(now)
    return line_of(values)


def value(line, place):
    """The value that a line has at a place."""
    need_line(line)
    need_place(place, line[0])
    return plain(line)[place]
