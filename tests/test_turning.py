"""[1], [5] and [6]: rising lines, turned back, under a line and over it; how lines fall."""

import itertools
import unittest

from stepline import turning
from stepline.errors import Falls, NoLine, NoNumber
from stepline.lines import plain
from stepline.turning import fall, is_rising, over, turned, turned_down, under
from tests.things import OfLines, arguments, line_by_places, long_lists, mixed_lists, no_lengths, short_lists

LINE = (6, ((0, 4), (2, -3), (5, 0)))
RISING = (6, ((0, -2), (1, 1), (3, 4), (5, 7)))
ONE = (1, ((0, 7),))
LONG = (60, ((0, -999), (30, 999)))
TURNED = (turned, turned_down)
ARGUMENTS = {
    "is_rising": ["line"],
    "turned": ["line", "long"],
    "turned_down": ["line", "long"],
    "under": ["line"],
    "over": ["line"],
    "fall": ["line"],
}


def all_lists():
    return short_lists(5, (-1, 0, 2)) + long_lists() + mixed_lists()


def rises(values):
    """Whether a list nowhere falls, as the document's words have it."""
    return all(values[place] <= values[place + 1] for place in range(len(values) - 1))


def rising_lists():
    """Rising lists: below 0, among the places, and far above all lengths."""
    lists = [values for values in short_lists(4, (-3, 0, 1, 2, 5, 60, 999)) if rises(values)]
    lists += [sorted(values) for values in long_lists() + mixed_lists()]
    lists += [list(range(60)), list(range(1, 61)), list(range(-1, 59)), [place * 2 for place in range(30)]]
    return lists


def turned_by_places(values, long):
    """[5], place by place."""
    told = []
    for number in range(long):
        places = [place for place in range(len(values)) if values[place] >= number]
        told.append(min(places) if places else len(values))
    return told


def turned_down_by_places(values, long):
    """[5], place by place."""
    told = []
    for number in range(long):
        places = [place for place in range(len(values)) if values[place] <= number]
        told.append(max(places) if places else -1)
    return told


def fall_by_places(values):
    """[6], of all pairs of places."""
    falls = [(values[first] - values[second], first, second)
             for first in range(len(values)) for second in range(first + 1, len(values))
             if values[first] > values[second]]
    return min(falls, key=lambda one: (-one[0], one[2], one[1])) if falls else None


class InterfaceTest(unittest.TestCase):
    def test_names_and_arguments(self):
        self.assertEqual(arguments(turning, ARGUMENTS), ARGUMENTS)


class IsRisingTest(OfLines):
    def test_rising_level_and_falling(self):
        self.assertIs(is_rising(RISING), True)
        self.assertIs(is_rising((60, ((0, 0),))), True)
        self.assertIs(is_rising(LINE), False)
        self.assertIs(is_rising((3, ((0, 2), (1, 1)))), False)

    def test_the_edges(self):
        self.assertIs(is_rising(ONE), True)
        self.assertIs(is_rising(LONG), True)
        self.assertIs(is_rising((60, ((0, 999), (30, -999)))), False)
        self.assertIs(is_rising((60, ((0, 1), (59, 0)))), False)
        self.assertIs(is_rising((60, ((0, 1), (1, 0), (2, 1)))), False)
        self.assertIs(is_rising((2, ((0, -998), (1, -999)))), False)

    def test_place_by_place(self):
        for values in all_lists() + rising_lists():
            self.assertIs(is_rising(line_by_places(values)), rises(values))

    def test_no_lines(self):
        self.no_line_first(is_rising)


class TurnedTest(OfLines):
    def test_ordinary(self):
        # The values of RISING are -2, 1, 1, 4, 4, 7.
        self.assertEqual(plain(turned(RISING, 10)), [1, 1, 3, 3, 3, 5, 5, 5, 6, 6])
        self.assertEqual(plain(turned_down(RISING, 10)), [0, 2, 2, 2, 4, 4, 4, 5, 5, 5])

    def test_values_below_0_and_far_above(self):
        self.assertEqual(turned((4, ((0, -5),)), 3), (3, ((0, 4),)))
        self.assertEqual(turned_down((4, ((0, -5),)), 3), (3, ((0, 3),)))
        self.assertEqual(turned((4, ((0, 999),)), 60), (60, ((0, 0),)))
        self.assertEqual(turned_down((4, ((0, 999),)), 60), (60, ((0, -1),)))
        self.assertEqual(turned(LONG, 60), (60, ((0, 30),)))
        self.assertEqual(turned_down(LONG, 60), (60, ((0, 29),)))

    def test_one_place_and_sixty(self):
        self.assertEqual(turned(ONE, 1), (1, ((0, 0),)))
        self.assertEqual(turned_down(ONE, 1), (1, ((0, -1),)))
        self.assertEqual(turned(ONE, 8), (8, ((0, 0),)))
        self.assertEqual(turned(ONE, 9), (9, ((0, 0), (8, 1))))
        self.assertEqual(turned_down(ONE, 7), (7, ((0, -1),)))
        self.assertEqual(turned_down(ONE, 8), (8, ((0, -1), (7, 0))))
        self.assertEqual(turned((60, ((0, -1),)), 60), (60, ((0, 60),)))
        self.assertEqual(turned_down((60, ((0, 0),)), 60), (60, ((0, 59),)))

    def test_places_turned_back_are_themselves(self):
        same = line_by_places(list(range(60)))
        self.assertEqual(turned(same, 60), same)
        self.assertEqual(turned_down(same, 60), same)
        self.assertEqual(turned(line_by_places(list(range(10))), 12), line_by_places(list(range(11)) + [10]))
        self.assertEqual(turned_down(line_by_places(list(range(10))), 12), line_by_places(list(range(10)) + [9, 9]))

    def test_place_by_place_at_all_lengths(self):
        for values in rising_lists()[::5]:
            line = line_by_places(values)
            up, down = turned_by_places(values, 60), turned_down_by_places(values, 60)
            for long in range(1, 61):
                self.assertEqual(turned(line, long), line_by_places(up[:long]))
                self.assertEqual(turned_down(line, long), line_by_places(down[:long]))

    def test_place_by_place_at_some_lengths(self):
        for values in rising_lists():
            line = line_by_places(values)
            for long in (1, 2, 6, 60):
                self.assertEqual(turned(line, long), line_by_places(turned_by_places(values, long)))
                self.assertEqual(turned_down(line, long), line_by_places(turned_down_by_places(values, long)))

    def test_a_place_is_no_less_just_if_its_value_is(self):
        for values in rising_lists():
            line = line_by_places(values)
            up, down = plain(turned(line, 60)), plain(turned_down(line, 60))
            for place, number in itertools.product(range(len(values)), range(60)):
                self.assertEqual(place >= up[number], values[place] >= number)
                self.assertEqual(place <= down[number], values[place] <= number)

    def test_both_rise_and_are_lines(self):
        for values in rising_lists():
            for call in TURNED:
                line = call(line_by_places(values), 60)
                self.plain_line(line)
                self.assertTrue(rises(plain(line)))

    def test_lines_that_fall(self):
        for values in all_lists():
            if not rises(values):
                for call in TURNED:
                    self.refused(Falls, call, line_by_places(values), 5)
        for call in TURNED:
            self.refused(Falls, call, (60, ((0, 1), (59, 0))), 60)
            self.refused(Falls, call, (2, ((0, 999), (1, -999))), 1)

    def test_lengths_that_are_none(self):
        for call in TURNED:
            for long in no_lengths():
                with self.subTest(call=call.__name__, long=repr(long)):
                    self.refused(NoNumber, call, RISING, long)
                    self.refused(NoNumber, call, ONE, long)

    def test_falls_is_told_ahead_of_the_length(self):
        for call in TURNED:
            for long in no_lengths():
                with self.subTest(call=call.__name__, long=repr(long)):
                    self.refused(Falls, call, LINE, long)

    def test_no_lines_first(self):
        for call in TURNED:
            for long in (1, 60, 0, 61, None, True):
                self.no_line_first(call, long)


class UnderAndOverTest(OfLines):
    def test_ordinary(self):
        self.assertEqual(under(LINE), (6, ((0, -3), (5, 0))))
        self.assertEqual(over(LINE), (6, ((0, 4),)))
        self.assertEqual(plain(under(line_by_places([1, 5, 3, 4, 9, 2, 8]))), [1, 2, 2, 2, 2, 2, 8])
        self.assertEqual(plain(over(line_by_places([1, 5, 3, 4, 9, 2, 8]))), [1, 5, 5, 5, 9, 9, 9])

    def test_the_edges(self):
        for line in (ONE, LONG, RISING):
            self.assertEqual(under(line), line)
            self.assertEqual(over(line), line)
        falling = (60, ((0, 999), (30, -999)))
        self.assertEqual(under(falling), (60, ((0, -999),)))
        self.assertEqual(over(falling), (60, ((0, 999),)))
        self.assertEqual(under((60, ((0, 5), (59, 4)))), (60, ((0, 4),)))
        self.assertEqual(over((60, ((0, 5), (1, 4)))), (60, ((0, 5),)))

    def test_place_by_place(self):
        for values in all_lists():
            line = line_by_places(values)
            places = range(len(values))
            self.assertEqual(under(line), line_by_places([min(values[place:]) for place in places]))
            self.assertEqual(over(line), line_by_places([max(values[:place + 1]) for place in places]))

    def test_they_rise_and_are_nowhere_above_or_below(self):
        for values in all_lists():
            low, high = plain(under(line_by_places(values))), plain(over(line_by_places(values)))
            self.assertTrue(rises(low))
            self.assertTrue(rises(high))
            for place, worth in enumerate(values):
                self.assertLessEqual(low[place], worth)
                self.assertGreaterEqual(high[place], worth)

    def test_no_rising_line_is_nearer(self):
        rising = [values for values in short_lists(4, (-1, 0, 1, 2)) if rises(values)]
        for values in short_lists(4, (-1, 0, 1, 2)):
            low, high = plain(under(line_by_places(values))), plain(over(line_by_places(values)))
            for other in rising:
                if len(other) == len(values):
                    if all(left <= right for left, right in zip(other, values)):
                        self.assertTrue(all(left <= right for left, right in zip(other, low)))
                    if all(left >= right for left, right in zip(other, values)):
                        self.assertTrue(all(left >= right for left, right in zip(other, high)))

    def test_kinds(self):
        self.plain_line(under(LINE))
        self.plain_line(over(LINE))

    def test_no_lines(self):
        self.no_line_first(under)
        self.no_line_first(over)


class FallTest(OfLines):
    def test_ordinary(self):
        self.assertEqual(fall(LINE), (7, 0, 2))
        self.assertEqual(fall(line_by_places([1, 5, 3, 4, 9, 2, 8])), (7, 4, 5))
        self.assertEqual(fall(line_by_places([3, 9, 8, 2, 10, 5])), (7, 1, 3))

    def test_lines_that_rise(self):
        for line in (ONE, LONG, RISING, (60, ((0, -999),))):
            self.assertIsNone(fall(line))

    def test_the_edges(self):
        self.assertEqual(fall((60, ((0, 999), (30, -999)))), (1998, 0, 30))
        self.assertEqual(fall((2, ((0, -998), (1, -999)))), (1, 0, 1))
        self.assertEqual(fall((60, ((0, 1), (59, 0)))), (1, 0, 59))
        self.assertEqual(fall((60, ((0, 0), (58, 1), (59, 0)))), (1, 58, 59))

    def test_of_equal_falls_the_second_place_nearest_to_the_beginning(self):
        self.assertEqual(fall(line_by_places([0, 5, 2, 6, 3, 9, 6])), (3, 1, 2))
        self.assertEqual(fall(line_by_places([5, 2, 2, 5, 2])), (3, 0, 1))
        self.assertEqual(fall(line_by_places([1, 0, 9, 8, 1, 0, 9, 0])), (9, 2, 5))

    def test_then_the_first_place_nearest_to_the_beginning(self):
        self.assertEqual(fall(line_by_places([5, 5, 5, 2])), (3, 0, 3))
        self.assertEqual(fall(line_by_places([0, 5, 4, 5, 2, 2])), (3, 1, 4))
        self.assertEqual(fall(line_by_places([1, 3, 2, 3, 0, 3, 0])), (3, 1, 4))

    def test_a_later_top_does_not_make_up_for_a_lesser_fall(self):
        self.assertEqual(fall(line_by_places([5, 0, 9, 6])), (5, 0, 1))
        self.assertEqual(fall(line_by_places([5, 0, 9, 4])), (5, 0, 1))
        self.assertEqual(fall(line_by_places([5, 0, 9, 3])), (6, 2, 3))

    def test_of_all_pairs_of_places(self):
        for values in short_lists(6, (-1, 0, 2)) + long_lists() + mixed_lists() + rising_lists():
            self.assertEqual(fall(line_by_places(values)), fall_by_places(values))

    def test_kinds(self):
        told = fall(LINE)
        self.assertIs(told.__class__, tuple)
        self.assertEqual([number.__class__ for number in told], [int, int, int])

    def test_no_lines(self):
        self.no_line_first(fall)


class NothingIsChangedTest(OfLines):
    def test_equal_things_give_equal_answers(self):
        for line in (LINE, RISING, ONE, LONG):
            for call in (is_rising, under, over, fall):
                self.same_each_time(call, line)
        for line in (RISING, ONE, LONG):
            for call in TURNED:
                self.same_each_time(call, line, 7)

    def test_lists_within_what_is_refused_are_as_they_were(self):
        steps = [(0, 2), (1, 1)]
        for call, rest in ((is_rising, ()), (turned, (3,)), (turned_down, (3,)), (under, ()), (over, ()), (fall, ())):
            self.refused(NoLine, call, (3, steps), *rest)
        many = [3, 1]
        for call in TURNED:
            self.refused(NoNumber, call, RISING, many)
            self.refused(Falls, call, LINE, many)
        self.assertEqual((steps, many), ([(0, 2), (1, 1)], [3, 1]))


if __name__ == "__main__":
    unittest.main()
