"""Things that the tests hand in: lines, and what is none."""

import copy
import inspect
import itertools
import unittest

from stepline.errors import NoLine


class Strange:
    """An object that is like nothing, and says so of everything."""

    def __eq__(self, other):
        return False

    __hash__ = None


class Refusing(unittest.TestCase):
    """A test that tells refusals apart."""

    def refused(self, error, call, *things):
        """The call is refused with this very error, not with one under it."""
        with self.assertRaises(error) as caught:
            call(*things)
        self.assertIs(caught.exception.__class__, error)


class OfLines(Refusing):
    """A test of functions that refuse what is no line ahead of all else."""

    def no_line_first(self, call, *rest):
        """Each thing that is no line is refused with NoLine, whatever else is handed in."""
        for thing in no_lines():
            with self.subTest(thing=repr(thing), rest=repr(rest)):
                self.refused(NoLine, call, thing, *rest)

    def no_line_second(self, call, line):
        """The same of the second thing that is handed in."""
        for thing in no_lines():
            with self.subTest(line=repr(line), thing=repr(thing)):
                self.refused(NoLine, call, line, thing)

    def same_each_time(self, call, *things):
        """Equal things give equal answers, whose lists are new ones; what is handed in is as it was."""
        before = copy.deepcopy(things)
        first = call(*things)
        second = call(*things)
        kept = copy.deepcopy(first)
        self.assertEqual(second, kept)
        for told in lists_in(first):
            told.append("another thing")
        self.assertEqual(second, kept)
        self.assertEqual(call(*things), kept)
        self.assertEqual(call(*before), kept)
        self.assertEqual(things, before)

    def plain_line(self, line):
        """A line is of tuples and whole numbers throughout."""
        self.assertIs(line.__class__, tuple)
        self.assertIs(line[0].__class__, int)
        self.assertIs(line[1].__class__, tuple)
        for step in line[1]:
            self.assertIs(step.__class__, tuple)
            self.assertEqual([number.__class__ for number in step], [int, int])


def lists_in(thing):
    """The lists that an answer is, or has directly in it."""
    things = [thing, *thing] if isinstance(thing, (list, tuple)) else [thing]
    return [one for one in things if isinstance(one, list)]


def arguments(module, names):
    """The names of the arguments of some functions of a module, by the functions' names."""
    return {name: list(inspect.signature(getattr(module, name)).parameters) for name in names}


def no_numbers():
    """Things that are no whole numbers, of each kind but numbers with a point."""
    return [None, True, False, "", "1", b"", b"1", [], [1], (), (1,), {}, {1: 1}, {1}, set(), frozenset(),
            range(2), len, int, Strange(), bytearray(b"1"), iter([1]), ValueError("1")]


def no_values():
    """Things that are no values."""
    return no_numbers() + [-1000, 1000, 10 ** 30, -10 ** 30]


def no_lengths():
    """Things that no line has as its length."""
    return no_numbers() + [0, -1, 61, 62, 10 ** 30, -10 ** 30]


def no_places(long):
    """Things that are no places of a line of a length."""
    return no_numbers() + [-1, -2, -long, -long - 1, long, long + 1, 10 ** 30, -10 ** 30]


def no_pairs():
    """Things that are no tuples of two."""
    return no_numbers() + [0, 1, (0, 1, 2), (0, 1, None), [0, 1], "01", b"01", {0: 0, 1: 1}, {0, 1}, range(0, 2)]


def no_lines():
    """Things that are no lines, each in one way."""
    things = no_pairs() + [(3, ((0, 1),), 0), [3, ((0, 1),)], (((0, 1),), 3), ((0, 1), 3)]
    things += [(long, ((0, 1),)) for long in no_lengths()]
    things += [(3, steps) for steps in no_numbers() + [0, 3, "01", [(0, 1)], {(0, 1)}, {(0, 1): 1}, ((0, 1), 3)]]
    things += [(3, (step,)) for step in no_pairs()]
    things += [(3, ((0, 1), step)) for step in no_pairs()]
    things += [(3, ((place, 1),)) for place in no_places(3) + [1, 2]]
    things += [(3, ((0, 5), (place, 1))) for place in no_places(3) + [0, 3, 4]]
    things += [(3, ((0, worth),)) for worth in no_values()]
    things += [(3, ((0, 5), (2, worth))) for worth in no_values() + [5]]
    things += [
        (1, ((0, 1), (1, 2))),
        (2, ((0, 1), (0, 2))),
        (3, ((1, 2), (0, 1))),
        (3, ((0, 1), (2, 2), (1, 3))),
        (3, ((0, 1), (1, 2), (1, 3))),
        (3, ((0, 1), (1, 2), (2, 2))),
        (3, ((0, 0), (1, 0))),
        (3, ((0, 1), (1, 2), (2, 3), (3, 4))),
        (60, ((0, 1), (60, 2))),
        (61, tuple((place, place) for place in range(61))),
        (60, tuple((place, place) for place in range(61))),
        (2, ((0, 1), (True, 2))),
        (2, ((False, 1), (1, 2))),
        (2, ((0, True), (1, 2))),
        (2, ((0, 1), (1, False))),
        (True, ((0, 1),)),
    ]
    return things


def line_by_places(values):
    """The line of a list of values, as the document's words have it; the tests' own way to one."""
    changes = [place for place in range(len(values)) if place == 0 or values[place - 1] != values[place]]
    return (len(values), tuple((place, values[place]) for place in changes))


def short_lists(longest, worths):
    """All lists of 1 to so many of some values."""
    return [list(values) for long in range(1, longest + 1) for values in itertools.product(worths, repeat=long)]


def long_lists():
    """Some longer lists of values, up to 60, of few steps and of many."""
    return [
        [0] * 60,
        [999] * 60,
        [-999] * 59,
        list(range(60)),
        list(range(30, -30, -1)),
        [place // 7 - 4 for place in range(60)],
        [place * place * 37 // 11 - 999 if place < 24 else 5 for place in range(60)],
        [999 if place & 1 else -999 for place in range(60)],
        [(place * 389 + 17) % 1999 - 999 for place in range(60)],
        [(place * 7 + 3) % 13 // 4 for place in range(45)],
    ]


def mixed_lists():
    """Lists of values of each length, far from one another and near, in no order that is easy to see."""
    lists = []
    state = 12345
    for long in range(1, 61):
        reach = (1, 3, 9, 60, 400, 999)[long % 6]
        values = []
        for place in range(long):
            state = (state * 1103515245 + 12345) % 2 ** 31
            values.append((state >> 12) % (2 * reach + 1) - reach)
        lists.append(values)
    return lists
