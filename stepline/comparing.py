"""How far lines are from one another, the deeds between them, and lines found in others."""

from stepline.asking import held_stretches
from stepline.checks import need_line
from stepline.errors import NoWay
from stepline.joining import paired
from stepline.lines import level_stretches, line_of, plain


def unlike(one, other):
    """At how many places two lines are unlike, and by how much at the most."""
    gaps = [abs(left - right) for left, right in paired(one, other)]
    return (len([gap for gap in gaps if gap > 0]), max(gaps))


def unlike_stretches(one, other):
    """The stretches, as long as can be, of places at which two lines are unlike, as tuples (first, last)."""
    return held_stretches([left != right for left, right in paired(one, other)])


def deeds_between(one, other):
    """The puts that make the other line of the one, none of them at a place at which they are alike."""
    wanted = [None if left == right else right for left, right in paired(one, other)]
    return [("put", first, last, worth) for first, last, worth in level_stretches(wanted) if worth is not None]


def half_way(one, other):
    """The line that has at each place half of two lines together, rounded down."""
    return line_of([(left + right) // 2 for left, right in paired(one, other)])


def many_unlike(values, others, many):
    """At how many places two lists are unlike, if the other one is moved on by so many; those ahead are."""
    return many + len([place for place in range(many, len(values)) if values[place] != others[place - many]])


def best_shift(one, other):
    """The least number of places by which the other line is moved on, so that the fewest are unlike."""
    pairs = paired(one, other)
    values = [left for left, right in pairs]
    others = [right for left, right in pairs]
    counts = [many_unlike(values, others, many) for many in range(len(values))]
    return counts.index(min(counts))


def found_in(line, other):
    """The first places of all stretches of a line that are as another one."""
    need_line(line)
    need_line(other)
    if other[0] > line[0]:
        raise NoWay("the other line is longer")
    values = plain(line)
    wanted = plain(other)
    many = len(wanted)
    return [first for first in range(len(values) - many + 1) if values[first:first + many] == wanted]
