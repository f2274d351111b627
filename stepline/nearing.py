"""The fewest pieces of a line within a spread, the least spread for so many, and bars, which show that it is so."""

from stepline.checks import GREATEST_SPREAD, MOST_PLACES, is_place, need_line, need_number
from stepline.lines import formed, plain


def need_spread(line, spread):
    """Refuse what is no line, then what is no spread."""
    need_line(line)
    need_number(spread, 0, GREATEST_SPREAD)


def fewest(line, spread):
    """The pieces of a line within a spread, each as long as can be, as tuples (first, last, least, greatest)."""
    need_spread(line, spread)
    values = plain(line)
    pieces = []
    first, least, greatest = 0, values[0], values[0]
    for place, worth in enumerate(values):
        if max(greatest, worth) - min(least, worth) > spread:
            pieces.append((first, place - 1, least, greatest))
            first, least, greatest = place, worth, worth
        least = min(least, worth)
        greatest = max(greatest, worth)
    pieces.append((first, len(values) - 1, least, greatest))
    return pieces


def near(line, spread):
    """The line that has in each piece the least value of it."""
    rows = [(first, least) for first, last, least, greatest in fewest(line, spread)]
    return formed(line[0], rows)


def far_places(values, first, second, spread):
    """The places from a first one up to a second one whose values are more than a spread apart from that one's."""
    return [place for place in range(first, second) if abs(values[place] - values[second]) > spread]


def bar(line, spread):
    """A bar for a spread, of one pair less than there are fewest pieces."""
    starts = [piece[0] for piece in fewest(line, spread)]
    values = plain(line)
    # A piece ends just where the next value is too far from one of its own, so there is such a place in it.
    return [(far_places(values, first, second, spread)[0], second) for first, second in zip(starts, starts[1:])]


def is_pair(thing, long):
    """Whether a thing is a tuple of two places of a line of a length."""
    if not isinstance(thing, tuple) or len(thing) != 2:
        return False
    return is_place(thing[0], long) and is_place(thing[1], long)


def is_bar(line, spread, thing):
    """Whether a thing is a bar for a spread."""
    need_spread(line, spread)
    if not isinstance(thing, list) or not all(is_pair(pair, line[0]) for pair in thing):
        return False
    values = plain(line)
    ahead = 0
    for first, second in thing:
        if not ahead <= first < second or abs(values[first] - values[second]) <= spread:
            return False
        ahead = second
    return True


def least_spread(line, many):
    """The least spread within which the fewest pieces are no more than so many."""
    need_line(line)
    need_number(many, 1, MOST_PLACES)
    # Within a greater spread there are never more pieces, and within the greatest one there is one alone.
    low, high = 0, GREATEST_SPREAD
    while low < high:
        middle = (low + high) // 2
        if len(fewest(line, middle)) <= many:
            high = middle
        else:
            low = middle + 1
    return low


def both(line, many):
    """The least spread for so many pieces, the fewest pieces within it, and a bar for the spread less one."""
    spread = least_spread(line, many)
    pairs = bar(line, spread - 1) if spread > 0 else []
    return (spread, fewest(line, spread), pairs)
