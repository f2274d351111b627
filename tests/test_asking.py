"""[1] and [4]: what stretches have, and lines ordered."""

import unittest

from stepline import asking
from stepline.asking import below_at, bounds, first_from, how_often, ordered, stretches, total
from stepline.errors import NoLine, NoPlace, NoValue, Unlike
from tests.things import (OfLines, arguments, line_by_places, long_lists, mixed_lists, no_places, no_values,
                          short_lists)

LINE = (6, ((0, 4), (2, -3), (5, 0)))
ONE = (1, ((0, 7),))
LONG = (60, ((0, -999), (30, 999)))
OF_STRETCHES = (total, bounds)
ARGUMENTS = {
    "total": ["line", "first", "last"],
    "bounds": ["line", "first", "last"],
    "first_from": ["line", "place", "value"],
    "stretches": ["line", "low", "high"],
    "how_often": ["line"],
    "below_at": ["one", "other"],
    "ordered": ["line"],
}


def all_lists():
    return short_lists(4, (-1, 0, 2)) + long_lists() + mixed_lists()


def stretches_by_places(values, low, high):
    """The stretches within bounds of which none can be made longer, as the document's words have it."""
    places = range(len(values))
    within = {(first, last) for first in places for last in places[first:]
              if all(low <= worth <= high for worth in values[first:last + 1])}
    return sorted(one for one in within
                  if (one[0] - 1, one[1]) not in within and (one[0], one[1] + 1) not in within)


class InterfaceTest(unittest.TestCase):
    def test_names_and_arguments(self):
        self.assertEqual(arguments(asking, ARGUMENTS), ARGUMENTS)


class StretchTest(OfLines):
    def test_ordinary(self):
        self.assertEqual(total(LINE, 1, 4), -5)
        self.assertEqual(bounds(LINE, 1, 4), (-3, 4))
        self.assertEqual(total(LINE, 2, 5), -9)
        self.assertEqual(bounds(LINE, 2, 5), (-3, 0))

    def test_one_place_and_the_whole_line(self):
        self.assertEqual([total(LINE, place, place) for place in range(6)], [4, 4, -3, -3, -3, 0])
        self.assertEqual(bounds(LINE, 1, 1), (4, 4))
        self.assertEqual(total(LINE, 0, 5), -1)
        self.assertEqual(bounds(LINE, 0, 5), (-3, 4))
        self.assertEqual(total(ONE, 0, 0), 7)
        self.assertEqual(bounds(ONE, 0, 0), (7, 7))

    def test_sixty_places_and_the_edges_of_values(self):
        self.assertEqual(total(LONG, 0, 59), 0)
        self.assertEqual(bounds(LONG, 0, 59), (-999, 999))
        # A total is a number, and need not be a value.
        self.assertEqual(total((60, ((0, 999),)), 0, 59), 59940)
        self.assertEqual(total((60, ((0, -999),)), 0, 59), -59940)
        self.assertEqual(total(LONG, 59, 59), 999)
        self.assertEqual(bounds(LONG, 0, 29), (-999, -999))
        self.assertEqual(bounds(LONG, 29, 30), (-999, 999))

    def test_place_by_place(self):
        for values in short_lists(4, (-1, 0, 2)) + long_lists()[5:] + mixed_lists()[3::7]:
            line = line_by_places(values)
            for first in range(len(values)):
                least = greatest = values[first]
                summed = 0
                for last in range(first, len(values)):
                    summed += values[last]
                    least, greatest = min(least, values[last]), max(greatest, values[last])
                    self.assertEqual(total(line, first, last), summed)
                    self.assertEqual(bounds(line, first, last), (least, greatest))

    def test_kinds(self):
        self.assertIs(total(LINE, 0, 3).__class__, int)
        self.assertIs(bounds(LINE, 0, 3).__class__, tuple)
        self.assertEqual([number.__class__ for number in bounds(LINE, 0, 3)], [int, int])

    def test_places_that_are_none(self):
        for call in OF_STRETCHES:
            for place in no_places(6):
                with self.subTest(call=call.__name__, place=repr(place)):
                    self.refused(NoPlace, call, LINE, place, 5)
                    self.refused(NoPlace, call, LINE, place, 0)
                    self.refused(NoPlace, call, LINE, 0, place)
                    self.refused(NoPlace, call, LINE, 5, place)
                    self.refused(NoPlace, call, LINE, place, place)
            self.refused(NoPlace, call, ONE, 0, 1)
            self.refused(NoPlace, call, ONE, 1, 1)
            self.refused(NoPlace, call, LONG, 0, 60)

    def test_the_wrong_way_round(self):
        for call in OF_STRETCHES:
            for last in range(6):
                for first in range(last + 1, 6):
                    self.refused(NoPlace, call, LINE, first, last)

    def test_no_lines_first(self):
        for call in OF_STRETCHES:
            for first, last in ((0, 0), (1, 0), (-1, 70), (None, None), (True, False)):
                self.no_line_first(call, first, last)


class FirstFromTest(OfLines):
    def test_ordinary(self):
        self.assertEqual(first_from(LINE, 0, 4), 0)
        self.assertEqual(first_from(LINE, 1, 4), 1)
        self.assertEqual(first_from(LINE, 2, 0), 5)
        self.assertEqual(first_from(LINE, 2, -3), 2)
        self.assertEqual(first_from(LINE, 3, -2), 5)

    def test_where_there_is_none(self):
        self.assertIsNone(first_from(LINE, 0, 5))
        self.assertIsNone(first_from(LINE, 2, 1))
        self.assertIsNone(first_from(LINE, 5, 1))
        self.assertIsNone(first_from(ONE, 0, 8))
        self.assertIsNone(first_from((60, ((0, 998),)), 0, 999))

    def test_the_edges(self):
        self.assertEqual(first_from(ONE, 0, 7), 0)
        self.assertEqual(first_from(LONG, 0, 999), 30)
        self.assertEqual(first_from(LONG, 0, -998), 30)
        self.assertEqual(first_from(LONG, 0, -999), 0)
        self.assertEqual(first_from(LONG, 59, 999), 59)

    def test_place_by_place(self):
        for values in all_lists():
            line = line_by_places(values)
            for worth in {-999, -1, 0, 1, 3, 999, values[0], values[-1], min(values), max(values)}:
                for start in range(len(values)):
                    places = [place for place in range(start, len(values)) if values[place] >= worth]
                    self.assertEqual(first_from(line, start, worth), places[0] if places else None)

    def test_places_that_are_none(self):
        for place in no_places(6):
            with self.subTest(repr(place)):
                self.refused(NoPlace, first_from, LINE, place, 0)
                # Neither where no place would be told.
                self.refused(NoPlace, first_from, LINE, place, 999)

    def test_values_that_are_none(self):
        for worth in no_values():
            with self.subTest(repr(worth)):
                self.refused(NoValue, first_from, LINE, 0, worth)

    def test_the_place_is_refused_ahead_of_the_value(self):
        for place in no_places(6):
            for worth in (None, True, -1000, 1000):
                with self.subTest(place=repr(place), worth=repr(worth)):
                    self.refused(NoPlace, first_from, LINE, place, worth)

    def test_no_lines_first(self):
        for place, worth in ((0, 0), (-1, 0), (0, 1000), (None, None), (True, False)):
            self.no_line_first(first_from, place, worth)


class StretchesTest(OfLines):
    def test_ordinary(self):
        self.assertEqual(stretches(LINE, 0, 4), [(0, 1), (5, 5)])
        self.assertEqual(stretches(LINE, -3, 0), [(2, 5)])
        self.assertEqual(stretches(LINE, -5, -1), [(2, 4)])
        self.assertEqual(stretches((7, ((0, 1), (1, 9), (2, 2), (4, 9), (5, 3))), 1, 3), [(0, 0), (2, 3), (5, 6)])

    def test_stretches_of_several_values(self):
        self.assertEqual(stretches((60, tuple((place, place) for place in range(60))), 10, 20), [(10, 20)])

    def test_bounds_of_one_value(self):
        self.assertEqual(stretches(LINE, -3, -3), [(2, 4)])
        self.assertEqual(stretches(LINE, 4, 4), [(0, 1)])
        self.assertEqual(stretches(LINE, 0, 0), [(5, 5)])
        self.assertEqual(stretches(LINE, 1, 1), [])
        self.assertEqual(stretches(LONG, 999, 999), [(30, 59)])
        self.assertEqual(stretches(LONG, -999, -999), [(0, 29)])

    def test_bounds_that_take_in_the_whole_line(self):
        for line in (LINE, ONE, LONG):
            self.assertEqual(stretches(line, -999, 999), [(0, line[0] - 1)])
        self.assertEqual(stretches(LINE, -3, 4), [(0, 5)])

    def test_bounds_the_wrong_way_round(self):
        for low, high in ((1, 0), (4, -3), (999, -999), (0, -1)):
            for line in (LINE, ONE, LONG):
                self.assertEqual(stretches(line, low, high), [])

    def test_each_other_place(self):
        line = line_by_places([place & 1 for place in range(60)])
        self.assertEqual(stretches(line, 1, 5), [(place, place) for place in range(1, 60, 2)])
        self.assertEqual(stretches(line, -5, 0), [(place, place) for place in range(0, 60, 2)])

    def test_place_by_place(self):
        for values in short_lists(5, (-1, 0, 2)):
            line = line_by_places(values)
            for low in (-1, 0, 1, 2):
                for high in (-1, 0, 2):
                    self.assertEqual(stretches(line, low, high), stretches_by_places(values, low, high))

    def test_long_ones_place_by_place(self):
        for values in long_lists() + mixed_lists():
            line = line_by_places(values)
            for low, high in ((-999, 0), (0, 999), (-2, 2), (min(values), values[0]), (values[-1], max(values))):
                self.assertEqual(stretches(line, low, high), stretches_by_places(values, low, high))

    def test_kinds(self):
        for told in (stretches(LINE, 0, 4), stretches(LINE, 1, 0)):
            self.assertIs(told.__class__, list)
        for one in stretches(LINE, 0, 4):
            self.assertIs(one.__class__, tuple)

    def test_values_that_are_none(self):
        for worth in no_values():
            with self.subTest(repr(worth)):
                self.refused(NoValue, stretches, LINE, worth, 999)
                self.refused(NoValue, stretches, LINE, worth, -999)
                self.refused(NoValue, stretches, LINE, -999, worth)
                self.refused(NoValue, stretches, LINE, 999, worth)
                self.refused(NoValue, stretches, LINE, worth, worth)

    def test_no_lines_first(self):
        for low, high in ((0, 0), (1, 0), (-1000, 1000), (None, None), (True, False)):
            self.no_line_first(stretches, low, high)


class HowOftenTest(OfLines):
    def test_ordinary(self):
        self.assertEqual(how_often(LINE), [(-3, 3), (0, 1), (4, 2)])
        self.assertEqual(how_often((5, ((0, 2), (1, -2), (2, 2), (4, 3)))), [(-2, 1), (2, 3), (3, 1)])

    def test_the_edges(self):
        self.assertEqual(how_often(ONE), [(7, 1)])
        self.assertEqual(how_often((60, ((0, 0),))), [(0, 60)])
        self.assertEqual(how_often(LONG), [(-999, 30), (999, 30)])

    def test_place_by_place(self):
        for values in all_lists():
            told = how_often(line_by_places(values))
            self.assertEqual(told, [(worth, values.count(worth)) for worth in sorted(set(values))])
            self.assertEqual(sum(many for worth, many in told), len(values))

    def test_kinds(self):
        self.assertIs(how_often(LINE).__class__, list)
        for one in how_often(LINE):
            self.assertIs(one.__class__, tuple)

    def test_no_lines(self):
        self.no_line_first(how_often)


class BelowAtTest(OfLines):
    def test_ordinary(self):
        self.assertEqual(below_at(LINE, (6, ((0, 4), (2, -3), (4, -2)))), 4)
        self.assertEqual(below_at(LINE, (6, ((0, 5),))), 0)
        self.assertEqual(below_at(LINE, (6, ((0, -9), (5, 1)))), 5)

    def test_where_there_is_none(self):
        self.assertIsNone(below_at(LINE, LINE))
        self.assertIsNone(below_at(LINE, (6, ((0, -3),))))
        self.assertIsNone(below_at(ONE, ONE))
        self.assertIsNone(below_at((60, ((0, 999),)), LONG))

    def test_the_edges(self):
        self.assertEqual(below_at(LONG, (60, ((0, 999),))), 0)
        self.assertEqual(below_at(LONG, (60, ((0, -999), (29, -998)))), 29)
        self.assertEqual(below_at(ONE, (1, ((0, 8),))), 0)
        self.assertEqual(below_at((60, ((0, 0),)), (60, ((0, 0), (59, 1)))), 59)

    def test_place_by_place(self):
        lists = all_lists()
        for one in lists:
            for other in lists:
                if len(one) == len(other):
                    places = [place for place in range(len(one)) if one[place] < other[place]]
                    self.assertEqual(below_at(line_by_places(one), line_by_places(other)),
                                     places[0] if places else None)

    def test_other_lengths(self):
        self.refused(Unlike, below_at, LINE, ONE)
        self.refused(Unlike, below_at, ONE, LINE)
        self.refused(Unlike, below_at, LONG, (59, ((0, 0),)))
        self.refused(Unlike, below_at, (1, ((0, 7),)), (2, ((0, 7),)))

    def test_no_lines_first(self):
        for line in (LINE, ONE, None, (3, ((0, 1),))):
            self.no_line_first(below_at, line)
        for line in (LINE, ONE, (3, ((0, 1),))):
            self.no_line_second(below_at, line)


class OrderedTest(OfLines):
    def test_ordinary(self):
        self.assertEqual(ordered(LINE), (6, ((0, -3), (3, 0), (4, 4))))
        self.assertEqual(ordered((5, ((0, 2), (1, -2), (2, 2), (4, 3)))), (5, ((0, -2), (1, 2), (4, 3))))

    def test_the_edges(self):
        self.assertEqual(ordered(ONE), ONE)
        self.assertEqual(ordered(LONG), LONG)
        self.assertEqual(ordered((60, ((0, 999), (1, -999), (2, 999)))), (60, ((0, -999), (1, 999))))

    def test_it_rises_and_has_each_value_as_often_as_before(self):
        for values in all_lists():
            line = ordered(line_by_places(values))
            self.assertEqual(line, line_by_places(sorted(values)))
            self.assertEqual(how_often(line), how_often(line_by_places(values)))
            self.assertEqual(ordered(line), line)

    def test_kinds(self):
        self.plain_line(ordered(LINE))

    def test_no_lines(self):
        self.no_line_first(ordered)


class NothingIsChangedTest(OfLines):
    def test_equal_things_give_equal_answers_and_new_lists(self):
        for line in (LINE, ONE, LONG):
            self.same_each_time(total, line, 0, line[0] - 1)
            self.same_each_time(bounds, line, 0, line[0] - 1)
            self.same_each_time(first_from, line, 0, 0)
            self.same_each_time(stretches, line, 0, 999)
            self.same_each_time(stretches, line, 1, 0)
            self.same_each_time(how_often, line)
            self.same_each_time(below_at, line, line)
            self.same_each_time(ordered, line)

    def test_lists_within_what_is_refused_are_as_they_were(self):
        steps = [(0, 2), (1, 1)]
        wrong = (3, steps)
        for call, rest in ((total, (0, 1)), (bounds, (0, 1)), (first_from, (0, 1)), (stretches, (0, 1)),
                           (how_often, ()), (below_at, (LINE,)), (ordered, ())):
            self.refused(NoLine, call, wrong, *rest)
        many = [3, 1]
        for call in OF_STRETCHES:
            self.refused(NoPlace, call, LINE, many, many)
        self.refused(NoPlace, first_from, LINE, many, many)
        self.refused(NoValue, first_from, LINE, 0, many)
        self.refused(NoValue, stretches, LINE, many, many)
        self.assertEqual((steps, many), ([(0, 2), (1, 1)], [3, 1]))


if __name__ == "__main__":
    unittest.main()
