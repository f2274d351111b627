"""Windows that slide along lines, and the longest stretches within a spread."""

from stepline.checks import need_line, need_number
from stepline.lines import line_of, plain
from stepline.nearing import need_spread


def all_windows(line, many):
    """The lists of the values of all windows of so many places, in order of their first places."""
    need_line(line)
    need_number(many, 1, line[0])
    values = plain(line)
    return [values[first:first + many] for first in range(len(values) - many + 1)]


def lowest(line, many):
    """The line of the least values of the windows of so many places."""
    return line_of([min(window) for window in all_windows(line, many)])


def highest(line, many):
    """The line of the greatest values of the windows of so many places."""
    return line_of([max(window) for window in all_windows(line, many)])


def middles(line, many):
    """The line of the middle values of the windows of so many places."""
    # Of an even number of values the lesser one of the two in the middle, so one less is halved.
    return line_of([sorted(window)[(many - 1) // 2] for window in all_windows(line, many)])


def best_window(line, many):
    """The first place of the first window of so many places with the greatest total, and that total."""
    totals = [sum(window) for window in all_windows(line, many)]
    best = max(totals)
    return (totals.index(best), best)


def widest(line, spread):
    """The first one of the longest stretches in which no two values are more than a spread apart."""
    need_spread(line, spread)
    values = plain(line)
    widest_first, widest_last, first = 0, 0, 0
    for last in range(len(values)):
        # What is not within a spread is so in no longer stretch, so the first place never goes back.
        while max(values[first:last + 1]) - min(values[first:last + 1]) > spread:
            first += 1
        if last - first > widest_last - widest_first:
            widest_first, widest_last = first, last
    return (widest_first, widest_last)
