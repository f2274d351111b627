"""Lines put together, and lines cut."""

from stepline.checks import is_place, need_line, need_same_length, need_stretch, need_value
from stepline.errors import Unlike
from stepline.lines import fitted, line_of, plain


def paired(one, other):
    """The list of the values of two lines of one length, two and two, place by place."""
    need_same_length(one, other)
    return list(zip(plain(one), plain(other)))


def plus(one, other):
    """The sum of two lines."""
    return fitted([left + right for left, right in paired(one, other)])


def lesser(one, other):
    """The line of the lesser values of two lines."""
    return line_of([min(left, right) for left, right in paired(one, other)])


def greater(one, other):
    """The line of the greater values of two lines."""
    return line_of([max(left, right) for left, right in paired(one, other)])


def times(line, many):
    """A line so many times."""
    need_line(line)
    need_value(many)
    return fitted([worth * many for worth in plain(line)])


def put_in(outer, inner):
    """The line of the outer one's values at the places that are the inner one's values."""
    values = plain(outer)
    places = plain(inner)
    if not all(is_place(place, len(values)) for place in places):
        raise Unlike("a value of the inner line is no place of the outer one")
    return line_of([values[place] for place in places])


def behind(one, other):
    """The line of the one's values, then the other one's."""
    return fitted(plain(one) + plain(other))


def cut(line, first, last):
    """The stretch of a line from a place to another one, both too."""
    need_line(line)
    need_stretch(first, last, line[0])
    return line_of(plain(line)[first:last + 1])


def mirrored(line):
    """A line from its end on."""
    return line_of(plain(line)[::-1])
