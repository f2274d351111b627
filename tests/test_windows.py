"""[1] and [14]: windows that slide along lines, and the longest stretches within a spread."""

import itertools
import unittest

from stepline import windows
from stepline.errors import NoLine, NoNumber
from stepline.lines import plain
from stepline.windows import best_window, highest, lowest, middles, widest
from tests.things import OfLines, arguments, line_by_places, long_lists, mixed_lists, no_numbers, short_lists

# The values 4, 4, -3, -3, -3, 0.
LINE = (6, ((0, 4), (2, -3), (5, 0)))
ONE = (1, ((0, 7),))
LONG = (60, ((0, -999), (30, 999)))
LEVEL = (60, ((0, 5),))
ZIGZAG = line_by_places([999 if place & 1 else -999 for place in range(60)])
OF_WINDOWS = (lowest, highest, middles, best_window)
SPREADS = (0, 1, 2, 5, 40, 700, 1000, 1997, 1998)
ARGUMENTS = {
    "lowest": ["line", "many"],
    "highest": ["line", "many"],
    "middles": ["line", "many"],
    "best_window": ["line", "many"],
    "widest": ["line", "spread"],
}


def all_lists():
    return short_lists(5, (-1, 0, 2)) + long_lists() + mixed_lists()


def windows_by_places(values, many):
    """The windows as the document's words have them: all stretches of so many places."""
    return [[values[place] for place in range(first, last + 1)] for first in range(len(values))
            for last in range(first, len(values)) if last - first + 1 == many]


def middle(values):
    """The middle one; of an even number the lesser one of the two in the middle."""
    left = sorted(values)
    while len(left) > 2:
        left = left[1:-1]
    return min(left)


def widest_by_places(values, spread):
    """The first one of the longest stretches of all that are within a spread."""
    longest = None
    for first in range(len(values)):
        for last in range(first, len(values)):
            part = values[first:last + 1]
            if all(abs(one - other) <= spread for one, other in itertools.combinations(part, 2)):
                if longest is None or last - first > longest[1] - longest[0]:
                    longest = (first, last)
    return longest


class InterfaceTest(unittest.TestCase):
    def test_names_and_arguments(self):
        self.assertEqual(arguments(windows, ARGUMENTS), ARGUMENTS)


class LinesOfWindowsTest(OfLines):
    def test_ordinary(self):
        self.assertEqual(plain(lowest(LINE, 3)), [-3, -3, -3, -3])
        self.assertEqual(plain(highest(LINE, 3)), [4, 4, -3, 0])
        self.assertEqual(plain(middles(LINE, 3)), [4, -3, -3, -3])
        line = line_by_places([5, 1, 4, 2, 3])
        self.assertEqual(plain(lowest(line, 2)), [1, 1, 2, 2])
        self.assertEqual(plain(highest(line, 2)), [5, 4, 4, 3])
        self.assertEqual(plain(middles(line, 2)), [1, 1, 2, 2])
        self.assertEqual(plain(middles(line, 4)), [2, 2])
        self.assertEqual(plain(middles(line, 5)), [3])

    def test_windows_of_one_place_are_the_line(self):
        for call in (lowest, highest, middles):
            for line in (LINE, ONE, LONG, LEVEL, ZIGZAG):
                self.assertEqual(call(line, 1), line)

    def test_one_window_is_the_whole_line(self):
        self.assertEqual(lowest(LINE, 6), (1, ((0, -3),)))
        self.assertEqual(highest(LINE, 6), (1, ((0, 4),)))
        self.assertEqual(middles(LINE, 6), (1, ((0, -3),)))
        self.assertEqual(lowest(LONG, 60), (1, ((0, -999),)))
        self.assertEqual(highest(LONG, 60), (1, ((0, 999),)))
        self.assertEqual(middles(LONG, 60), (1, ((0, -999),)))
        self.assertEqual(middles(LONG, 59), (2, ((0, -999), (1, 999))))

    def test_window_by_window(self):
        for values in all_lists():
            line = line_by_places(values)
            for many in sorted({1, 2, 3, 4, 7, 30, 31, len(values) - 1, len(values)}):
                if 1 <= many <= len(values):
                    parts = windows_by_places(values, many)
                    self.assertEqual(lowest(line, many), line_by_places([min(part) for part in parts]))
                    self.assertEqual(highest(line, many), line_by_places([max(part) for part in parts]))
                    self.assertEqual(middles(line, many), line_by_places([middle(part) for part in parts]))

    def test_as_many_places_as_windows(self):
        for many in range(1, 61):
            for call in (lowest, highest, middles):
                self.assertEqual(call(ZIGZAG, many)[0], 61 - many)

    def test_kinds(self):
        for call in (lowest, highest, middles):
            for many in (1, 2, 6):
                self.plain_line(call(LINE, many))


class BestWindowTest(OfLines):
    def test_ordinary(self):
        self.assertEqual(best_window(LINE, 2), (0, 8))
        self.assertEqual(best_window(LINE, 6), (0, -1))
        self.assertEqual(best_window(line_by_places([1, -2, 5, 3, 4]), 2), (2, 8))
        self.assertEqual(best_window(line_by_places([1, -2, 5, 3, 4]), 3), (2, 12))

    def test_the_first_of_several(self):
        self.assertEqual(best_window(line_by_places([1, 2, 3, 2, 1]), 2), (1, 5))
        self.assertEqual(best_window(line_by_places([0, 3, 0, 3, 0, 3]), 2), (0, 3))
        self.assertEqual(best_window(line_by_places([0, -1, 7, 7, 0, 7]), 1), (2, 7))
        for many in range(1, 61):
            self.assertEqual(best_window(LEVEL, many), (0, 5 * many))
        self.assertEqual(best_window(ZIGZAG, 2), (0, 0))
        self.assertEqual(best_window(ZIGZAG, 3), (1, 999))

    def test_the_edges(self):
        self.assertEqual(best_window(ONE, 1), (0, 7))
        self.assertEqual(best_window((60, ((0, -999),)), 60), (0, -59940))
        self.assertEqual(best_window((60, ((0, -999),)), 1), (0, -999))
        self.assertEqual(best_window((60, ((0, 999),)), 60), (0, 59940))
        self.assertEqual(best_window(LONG, 1), (30, 999))
        self.assertEqual(best_window(LONG, 30), (30, 29970))
        self.assertEqual(best_window(LONG, 31), (29, 28971))

    def test_window_by_window(self):
        for values in all_lists():
            line = line_by_places(values)
            for many in sorted({1, 2, 3, 4, 7, len(values) - 1, len(values)}):
                if 1 <= many <= len(values):
                    totals = [sum(part) for part in windows_by_places(values, many)]
                    first = [at for at, total in enumerate(totals) if all(total >= other for other in totals)][0]
                    self.assertEqual(best_window(line, many), (first, totals[first]))

    def test_kinds(self):
        told = best_window(LINE, 2)
        self.assertIs(told.__class__, tuple)
        self.assertEqual([number.__class__ for number in told], [int, int])


class ManyRefusedTest(OfLines):
    def test_numbers_that_are_none(self):
        for call in OF_WINDOWS:
            for line in (LINE, ONE, LONG):
                for many in no_numbers() + [0, -1, -line[0], line[0] + 1, line[0] + 2, 61, 10 ** 30, -10 ** 30]:
                    with self.subTest(call=call.__name__, many=repr(many)):
                        self.refused(NoNumber, call, line, many)

    def test_no_lines_first(self):
        for call in OF_WINDOWS:
            for many in (1, 60, 0, 61, None, True):
                self.no_line_first(call, many)


class WidestTest(OfLines):
    def test_ordinary(self):
        self.assertEqual(widest(LINE, 0), (2, 4))
        self.assertEqual(widest(LINE, 2), (2, 4))
        self.assertEqual(widest(LINE, 3), (2, 5))
        self.assertEqual(widest(LINE, 6), (2, 5))
        self.assertEqual(widest(LINE, 7), (0, 5))

    def test_not_only_pieces_side_by_side(self):
        # Parted from the beginning on the pieces would be (0, 1), (2, 3) and (4, 4).
        self.assertEqual(widest(line_by_places([0, 3, 4, 2, 6]), 3), (1, 3))

    def test_no_two_values_not_only_those_side_by_side(self):
        self.assertEqual(widest(line_by_places(list(range(60))), 9), (0, 9))
        self.assertEqual(widest(line_by_places(list(range(60, 0, -1))), 9), (0, 9))

    def test_the_first_of_the_longest_ones(self):
        self.assertEqual(widest(line_by_places([1, 5, 5, 9, 9, 2]), 0), (1, 2))
        self.assertEqual(widest(line_by_places([1, 5, 5, 9, 9, 9]), 0), (3, 5))
        self.assertEqual(widest(line_by_places([0, 1, 2, 1, 0]), 1), (1, 3))
        for spread in (0, 1, 1997):
            self.assertEqual(widest(ZIGZAG, spread), (0, 0))

    def test_the_edges(self):
        for spread in SPREADS:
            self.assertEqual(widest(ONE, spread), (0, 0))
            self.assertEqual(widest(LEVEL, spread), (0, 59))
            self.assertEqual(widest(LONG, spread), (0, 29) if spread < 1998 else (0, 59))
        self.assertEqual(widest(ZIGZAG, 1998), (0, 59))
        self.assertEqual(widest((60, ((0, -999), (1, 999))), 1997), (1, 59))

    def test_place_by_place(self):
        for values in short_lists(5, (-1, 0, 2)) + long_lists()[3:] + mixed_lists()[::3]:
            for spread in SPREADS if len(values) < 20 else SPREADS[1::3]:
                self.assertEqual(widest(line_by_places(values), spread), widest_by_places(values, spread))

    def test_kinds(self):
        told = widest(LINE, 2)
        self.assertIs(told.__class__, tuple)
        self.assertEqual([number.__class__ for number in told], [int, int])

    def test_numbers_that_are_none(self):
        for spread in no_numbers() + [-1, -2, 1999, 2000, 10 ** 30, -10 ** 30]:
            with self.subTest(repr(spread)):
                for line in (LINE, ONE, LONG):
                    self.refused(NoNumber, widest, line, spread)

    def test_no_lines_first(self):
        for spread in (0, 1998, -1, 1999, None, True):
            self.no_line_first(widest, spread)


class NothingIsChangedTest(OfLines):
    def test_equal_things_give_equal_answers(self):
        for line in (LINE, ONE, LONG):
            for call in OF_WINDOWS:
                for many in (1, line[0]):
                    self.same_each_time(call, line, many)
            for spread in SPREADS:
                self.same_each_time(widest, line, spread)

    def test_lists_within_what_is_refused_are_as_they_were(self):
        steps = [(0, 2), (1, 1)]
        many = [3, 1]
        for call in OF_WINDOWS + (widest,):
            self.refused(NoLine, call, (3, steps), many)
            self.refused(NoNumber, call, LINE, many)
        self.assertEqual((steps, many), ([(0, 2), (1, 1)], [3, 1]))


if __name__ == "__main__":
    unittest.main()
