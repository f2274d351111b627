"""[1] and [13]: hills and dales, water, and the places that are seen from the left."""

import unittest

from stepline import hills as module
from stepline.errors import NoLine
from stepline.hills import dales, flooded, hills, seen_from, water
from stepline.joining import mirrored, times
from stepline.lines import plain
from tests.things import OfLines, arguments, line_by_places, long_lists, mixed_lists, short_lists

# The values 4, 4, -3, -3, -3, 0.
LINE = (6, ((0, 4), (2, -3), (5, 0)))
ONE = (1, ((0, 7),))
LONG = (60, ((0, -999), (30, 999)))
CALLS = (hills, dales, flooded, water, seen_from)
ARGUMENTS = {call.__name__: ["line"] for call in CALLS}


def all_lists():
    return short_lists(6, (-1, 0, 2)) + long_lists() + mixed_lists()


def levels(values):
    """All stretches of one value that cannot be made longer, as the document's words have it."""
    places = range(len(values))
    alike = {(first, last) for first in places for last in places[first:]
             if all(worth == values[first] for worth in values[first:last + 1])}
    return sorted(one for one in alike if (one[0] - 1, one[1]) not in alike and (one[0], one[1] + 1) not in alike)


def hills_by_places(values, sign):
    """The hills of a list of values; with the sign -1 the dales."""
    told = []
    for first, last in levels(values):
        ahead = first == 0 or sign * values[first - 1] < sign * values[first]
        behind = last == len(values) - 1 or sign * values[last + 1] < sign * values[last]
        if ahead and behind:
            told.append((first, last, values[first]))
    return told


def flooded_by_places(values):
    return [min(max(values[:place + 1]), max(values[place:])) for place in range(len(values))]


class InterfaceTest(unittest.TestCase):
    def test_names_and_arguments(self):
        self.assertEqual(arguments(module, ARGUMENTS), ARGUMENTS)


class HillsTest(OfLines):
    def test_ordinary(self):
        self.assertEqual(hills(LINE), [(0, 1, 4), (5, 5, 0)])
        self.assertEqual(dales(LINE), [(2, 4, -3)])
        line = line_by_places([1, 3, 3, 2, 5, 5, 1, 1, 6])
        self.assertEqual(hills(line), [(1, 2, 3), (4, 5, 5), (8, 8, 6)])
        self.assertEqual(dales(line), [(0, 0, 1), (3, 3, 2), (6, 7, 1)])

    def test_one_value_is_a_hill_and_a_dale(self):
        for line in (ONE, (2, ((0, 0),)), (60, ((0, 0),)), (60, ((0, 999),)), (60, ((0, -999),))):
            alone = [(0, line[0] - 1, line[1][0][1])]
            self.assertEqual(hills(line), alone)
            self.assertEqual(dales(line), alone)

    def test_rising_and_falling_ones(self):
        rising = line_by_places(list(range(60)))
        self.assertEqual((hills(rising), dales(rising)), ([(59, 59, 59)], [(0, 0, 0)]))
        falling = line_by_places(list(range(60, 0, -1)))
        self.assertEqual((hills(falling), dales(falling)), ([(0, 0, 60)], [(59, 59, 1)]))
        self.assertEqual((hills(LONG), dales(LONG)), ([(30, 59, 999)], [(0, 29, -999)]))

    def test_level_stretches_in_the_middle(self):
        # On a slope they are neither the one nor the other.
        up = line_by_places([1, 2, 2, 3])
        self.assertEqual((hills(up), dales(up)), ([(3, 3, 3)], [(0, 0, 1)]))
        down = line_by_places([3, 2, 2, 1])
        self.assertEqual((hills(down), dales(down)), ([(0, 0, 3)], [(3, 3, 1)]))
        hill = line_by_places([1, 2, 2, 2, 1])
        self.assertEqual((hills(hill), dales(hill)), ([(1, 3, 2)], [(0, 0, 1), (4, 4, 1)]))
        dale = line_by_places([2, 1, 1, 1, 2])
        self.assertEqual((hills(dale), dales(dale)), ([(0, 0, 2), (4, 4, 2)], [(1, 3, 1)]))

    def test_level_stretches_at_both_ends(self):
        line = line_by_places([5, 5, 1, 1, 5, 5, 5])
        self.assertEqual((hills(line), dales(line)), ([(0, 1, 5), (4, 6, 5)], [(2, 3, 1)]))
        line = line_by_places([0, 0, 0, 2, 1, 1])
        self.assertEqual((hills(line), dales(line)), ([(3, 3, 2)], [(0, 2, 0), (4, 5, 1)]))

    def test_the_edges_of_values(self):
        line = line_by_places([999 if place & 1 else -999 for place in range(60)])
        self.assertEqual(hills(line), [(place, place, 999) for place in range(1, 60, 2)])
        self.assertEqual(dales(line), [(place, place, -999) for place in range(0, 60, 2)])

    def test_place_by_place(self):
        for values in all_lists():
            self.assertEqual(hills(line_by_places(values)), hills_by_places(values, 1))
            self.assertEqual(dales(line_by_places(values)), hills_by_places(values, -1))

    def test_the_values_the_other_way_round(self):
        for values in all_lists():
            line = line_by_places(values)
            other = times(line, -1)
            self.assertEqual([(first, last, -worth) for first, last, worth in hills(line)], dales(other))
            self.assertEqual([(first, last, -worth) for first, last, worth in dales(line)], hills(other))

    def test_kinds(self):
        for call in (hills, dales):
            told = call(LINE)
            self.assertIs(told.__class__, list)
            for one in told:
                self.assertIs(one.__class__, tuple)
                self.assertEqual([number.__class__ for number in one], [int, int, int])


class WaterTest(OfLines):
    def test_ordinary(self):
        self.assertEqual(plain(flooded(LINE)), [4, 4, 0, 0, 0, 0])
        self.assertEqual(water(LINE), 9)
        line = line_by_places([3, 0, 2, 0, 4, 1, 2])
        self.assertEqual(plain(flooded(line)), [3, 3, 3, 3, 4, 2, 2])
        self.assertEqual(water(line), 8)

    def test_none_stands_on_these(self):
        for values in ([7], [0] * 60, [-999] * 60, list(range(60)), list(range(60, 0, -1)), [1, 2, 2, 5, 5, 3, 0]):
            line = line_by_places(values)
            self.assertEqual(flooded(line), line)
            self.assertEqual(water(line), 0)

    def test_the_edges_of_lengths_and_values(self):
        line = (60, ((0, 999), (1, -999), (59, 999)))
        self.assertEqual(flooded(line), (60, ((0, 999),)))
        self.assertEqual(water(line), 58 * 1998)
        self.assertEqual(flooded(LONG), LONG)
        # Below 0 it stands as well.
        line = line_by_places([-5, -9, -6])
        self.assertEqual(plain(flooded(line)), [-5, -6, -6])
        self.assertEqual(water(line), 3)

    def test_place_by_place(self):
        for values in all_lists():
            line = line_by_places(values)
            after = flooded_by_places(values)
            self.assertEqual(flooded(line), line_by_places(after))
            self.assertEqual(water(line), sum(high - low for high, low in zip(after, values)))

    def test_flooded_again_it_has_nothing_more(self):
        for values in all_lists():
            line = flooded(line_by_places(values))
            self.assertEqual(flooded(line), line)
            self.assertEqual(water(line), 0)

    def test_from_its_end_on_it_has_as_much(self):
        for values in long_lists() + mixed_lists():
            line = line_by_places(values)
            self.assertEqual(water(mirrored(line)), water(line))

    def test_kinds(self):
        self.plain_line(flooded(LINE))
        self.assertIs(water(LINE).__class__, int)


class SeenFromTest(OfLines):
    def test_ordinary(self):
        self.assertEqual(seen_from(line_by_places([1, 3, 3, 2, 5, 5, 1, 6])), [0, 1, 4, 7])
        self.assertEqual(seen_from(LINE), [0])

    def test_the_first_place_is_seen(self):
        for worth in (-999, 0, 999):
            for long in (1, 2, 60):
                self.assertEqual(seen_from((long, ((0, worth),))), [0])

    def test_equal_values_behind_are_not_seen(self):
        self.assertEqual(seen_from(line_by_places([2, 2, 2])), [0])
        self.assertEqual(seen_from(line_by_places([2, 1, 2, 3, 0, 3])), [0, 3])

    def test_rising_and_falling_ones(self):
        self.assertEqual(seen_from(line_by_places(list(range(60)))), list(range(60)))
        self.assertEqual(seen_from(line_by_places(list(range(60, 0, -1)))), [0])
        self.assertEqual(seen_from(LONG), [0, 30])
        self.assertEqual(seen_from(line_by_places([-999] * 59 + [-998])), [0, 59])

    def test_place_by_place(self):
        for values in all_lists():
            seen = [place for place, worth in enumerate(values) if all(ahead < worth for ahead in values[:place])]
            self.assertEqual(seen_from(line_by_places(values)), seen)

    def test_kinds(self):
        self.assertIs(seen_from(LINE).__class__, list)
        self.assertIs(seen_from(LINE)[0].__class__, int)


class RefusedTest(OfLines):
    def test_no_lines(self):
        for call in CALLS:
            self.no_line_first(call)


class NothingIsChangedTest(OfLines):
    def test_equal_things_give_equal_answers_and_new_lists(self):
        for line in (LINE, ONE, LONG):
            for call in CALLS:
                self.same_each_time(call, line)

    def test_lists_within_what_is_refused_are_as_they_were(self):
        steps = [(0, 2), (1, 1)]
        for call in CALLS:
            self.refused(NoLine, call, (3, steps))
        self.assertEqual(steps, [(0, 2), (1, 1)])


if __name__ == "__main__":
    unittest.main()
