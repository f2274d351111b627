"""Running totals and gains of lines, lines shifted, and how often lines swell and sink."""

from stepline.checks import MOST_PLACES, need_line, need_number
from stepline.lines import fitted, line_of, plain


def sums(line):
    """The line of the running totals of a line."""
    totals = []
    so_far = 0
    for worth in plain(line):
        so_far += worth
        totals.append(so_far)
    return fitted(totals)


def rises(values):
    """How much more each value but the first one is than the one ahead."""
    return [worth - ahead for ahead, worth in zip(values, values[1:])]


def gains(line):
    """The line of the first value of a line, then of how much more each place has than the one ahead."""
    values = plain(line)
    return fitted(values[:1] + rises(values))


def shifted(line, many):
    """A line with so many places of its first value ahead, cut to its length."""
    need_line(line)
    need_number(many, 0, MOST_PLACES)
    values = plain(line)
    return line_of((values[:1] * many + values)[:len(values)])


def swells(line):
    """How often a line swells, and how often it sinks."""
    steps = rises(plain(line))
    return (len([step for step in steps if step > 0]), len([step for step in steps if step < 0]))
