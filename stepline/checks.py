"""What values, places, rows and lines are, asked of things of any kind."""

from stepline.errors import NoLine, NoNumber, NoPlace, NoValue, Unlike

GREATEST_VALUE = 999
GREATEST_SPREAD = 1998
MOST_PLACES = 60
MOST_ROWS = 60


def is_whole(thing, least, greatest):
    """Whether a thing is a whole number from one to another one."""
    # Python counts True and False as integers; here they are no numbers.
    if isinstance(thing, bool) or not isinstance(thing, int):
        return False
    return least <= thing <= greatest


def is_value(thing):
    """Whether a thing is a value."""
    return is_whole(thing, -GREATEST_VALUE, GREATEST_VALUE)


def is_length(thing):
    """Whether a line may have as many places."""
    return is_whole(thing, 1, MOST_PLACES)


def is_place(thing, long):
    """Whether a thing is a place of a line of a length."""
    return is_whole(thing, 0, long - 1)


def is_row(thing, long):
    """Whether a thing is a tuple (place, value) for a line of a length."""
    if not isinstance(thing, tuple) or len(thing) != 2:
        return False
    return is_place(thing[0], long) and is_value(thing[1])


def are_values(thing):
    """Whether a thing is a list of all the values of a line."""
    if not isinstance(thing, list) or not is_length(len(thing)):
        return False
    return all(is_value(worth) for worth in thing)


def are_rows(thing, long):
    """Whether a thing is a list of rows for a line of a length."""
    if not isinstance(thing, list) or len(thing) > MOST_ROWS:
        return False
    return all(is_row(row, long) for row in thing)


def are_steps(thing, long):
    """Whether a thing is the steps of a line of a length, in their one form."""
    if not isinstance(thing, tuple) or not 1 <= len(thing) <= long:
        return False
    if not all(is_row(step, long) for step in thing):
        return False
    if thing[0][0] != 0:
        return False
    for ahead, step in zip(thing, thing[1:]):
        if ahead[0] >= step[0] or ahead[1] == step[1]:
            return False
    return True


def is_line(thing):
    """Whether a thing is a line."""
    if not isinstance(thing, tuple) or len(thing) != 2:
        return False
    return is_length(thing[0]) and are_steps(thing[1], thing[0])


def need_line(thing):
    """Refuse what is no line."""
    if not is_line(thing):
        raise NoLine("this is no line")


def need_value(thing):
    """Refuse what is no value."""
    if not is_value(thing):
        raise NoValue("a value is a whole number from -999 to 999")


def need_number(thing, least, greatest):
    """Refuse what is no whole number from one to another one."""
    if not is_whole(thing, least, greatest):
        raise NoNumber(f"this is no whole number from {least} to {greatest}")


def need_length(thing):
    """Refuse what no line has as its length."""
    if not is_length(thing):
        raise NoPlace("a line has 1 to 60 places")


def need_place(thing, long):
    """Refuse what is no place of a line of a length."""
    if not is_place(thing, long):
        raise NoPlace("the line has no such place")


def need_stretch(first, last, long):
    """Refuse what are not the first and the last place of a stretch."""
    need_place(first, long)
    need_place(last, long)
    if first > last:
        raise NoPlace("the first place of a stretch is not behind its last one")


def need_same_length(one, other):
    """Refuse what are not two lines of one length."""
    need_line(one)
    need_line(other)
    if one[0] != other[0]:
        raise Unlike("the lines are not of one length")
