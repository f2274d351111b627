"""[1], [7], [8] and [9]: the fewest pieces within a spread, bars, and the least spread for so many pieces."""

import itertools
import unittest

from stepline import nearing
from stepline.errors import NoLine, NoNumber
from stepline.lines import plain
from stepline.nearing import bar, both, fewest, is_bar, least_spread, near
from tests.things import (OfLines, arguments, line_by_places, long_lists, mixed_lists, no_lengths, no_numbers, no_pairs,
                          no_places, short_lists)

# The values 4, 4, -3, -3, -3, 0.
LINE = (6, ((0, 4), (2, -3), (5, 0)))
ONE = (1, ((0, 7),))
LEVEL = (60, ((0, 5),))
# -999 and 999 by turns: each place is a piece of its own within all spreads but the greatest one.
ZIGZAG = line_by_places([999 if place & 1 else -999 for place in range(60)])
SPREADS = (0, 1, 2, 5, 40, 700, 1000, 1997, 1998)
BY_SPREAD = (fewest, near, bar)
BY_MANY = (least_spread, both)
ARGUMENTS = {
    "fewest": ["line", "spread"],
    "near": ["line", "spread"],
    "bar": ["line", "spread"],
    "is_bar": ["line", "spread", "thing"],
    "least_spread": ["line", "many"],
    "both": ["line", "many"],
}


def no_spreads():
    """Things that are no spreads."""
    return no_numbers() + [-1, -2, 1999, 2000, 10 ** 30, -10 ** 30]


def all_lists():
    return short_lists(5, (-1, 0, 2)) + long_lists() + mixed_lists()


def fits(values, spread):
    """Whether no two values are more than a spread apart, as the document's words have it."""
    return all(abs(one - other) <= spread for one in values for other in values)


def least_many(values, spread):
    """By how few pieces a list can be parted, whatever their lengths."""
    least = [0]
    for end in range(1, len(values) + 1):
        first = end - 1
        fewer = []
        while first >= 0 and max(values[first:end]) - min(values[first:end]) <= spread:
            fewer.append(least[first] + 1)
            first -= 1
        least.append(min(fewer))
    return least[-1]


def is_bar_by_words(values, spread, pairs):
    """[8] of a list of tuples of two numbers."""
    for at, (first, second) in enumerate(pairs):
        if not (0 <= first < len(values) and 0 <= second < len(values) and first < second):
            return False
        if at > 0 and first < pairs[at - 1][1]:
            return False
        if abs(values[first] - values[second]) <= spread:
            return False
    return True


class InterfaceTest(unittest.TestCase):
    def test_names_and_arguments(self):
        self.assertEqual(arguments(nearing, ARGUMENTS), ARGUMENTS)


class SpreadRefusedTest(OfLines):
    def test_numbers_that_are_none(self):
        for call in BY_SPREAD:
            for spread in no_spreads():
                with self.subTest(call=call.__name__, spread=repr(spread)):
                    self.refused(NoNumber, call, LINE, spread)
                    self.refused(NoNumber, call, ONE, spread)

    def test_no_lines_first(self):
        for call in BY_SPREAD:
            for spread in (0, 1998, -1, 1999, None, True):
                self.no_line_first(call, spread)


class FewestTest(OfLines):
    def test_ordinary(self):
        self.assertEqual(fewest(LINE, 0), [(0, 1, 4, 4), (2, 4, -3, -3), (5, 5, 0, 0)])
        self.assertEqual(fewest(LINE, 3), [(0, 1, 4, 4), (2, 5, -3, 0)])
        self.assertEqual(fewest(LINE, 6), [(0, 1, 4, 4), (2, 5, -3, 0)])
        self.assertEqual(fewest(LINE, 7), [(0, 5, -3, 4)])

    def test_each_as_long_as_can_be_from_the_first_one_on(self):
        # The first place alone and then two and two would be three pieces as well.
        self.assertEqual(fewest(line_by_places([0, 1, 2, 3, 4]), 1), [(0, 1, 0, 1), (2, 3, 2, 3), (4, 4, 4, 4)])
        self.assertEqual(fewest(line_by_places([5, 3, 4, 1, 0]), 2), [(0, 2, 3, 5), (3, 4, 0, 1)])

    def test_a_spread_counts_from_the_least_to_the_greatest_value(self):
        # No two values side by side are far apart.
        self.assertEqual(fewest(line_by_places(list(range(60))), 9),
                         [(first, first + 9, first, first + 9) for first in range(0, 60, 10)])
        self.assertEqual(fewest(line_by_places(list(range(59, -1, -1))), 29), [(0, 29, 30, 59), (30, 59, 0, 29)])

    def test_one_place_and_sixty(self):
        for spread in SPREADS:
            self.assertEqual(fewest(ONE, spread), [(0, 0, 7, 7)])
            self.assertEqual(fewest(LEVEL, spread), [(0, 59, 5, 5)])
        alone = [(place, place, worth, worth) for place, worth in enumerate(plain(ZIGZAG))]
        self.assertEqual(fewest(ZIGZAG, 0), alone)
        self.assertEqual(fewest(ZIGZAG, 1997), alone)
        self.assertEqual(fewest(ZIGZAG, 1998), [(0, 59, -999, 999)])

    def test_pieces_part_the_line_and_tell_their_values(self):
        for values in all_lists():
            for spread in SPREADS:
                pieces = fewest(line_by_places(values), spread)
                start = 0
                for first, last, least, greatest in pieces:
                    self.assertEqual(first, start)
                    self.assertLessEqual(first, last)
                    self.assertEqual((least, greatest), (min(values[first:last + 1]), max(values[first:last + 1])))
                    start = last + 1
                self.assertEqual(start, len(values))

    def test_each_piece_is_within_and_as_long_as_can_be(self):
        for values in short_lists(5, (-1, 0, 2)) + mixed_lists()[::4]:
            for spread in SPREADS:
                for first, last, least, greatest in fewest(line_by_places(values), spread):
                    self.assertTrue(fits(values[first:last + 1], spread))
                    if last < len(values) - 1:
                        self.assertFalse(fits(values[first:last + 2], spread))

    def test_there_are_no_fewer(self):
        for values in all_lists():
            for spread in SPREADS:
                self.assertEqual(len(fewest(line_by_places(values), spread)), least_many(values, spread))

    def test_kinds(self):
        pieces = fewest(LINE, 3)
        self.assertIs(pieces.__class__, list)
        for piece in pieces:
            self.assertIs(piece.__class__, tuple)
            self.assertEqual([number.__class__ for number in piece], [int, int, int, int])


class NearTest(OfLines):
    def test_ordinary(self):
        self.assertEqual(near(LINE, 0), LINE)
        self.assertEqual(near(LINE, 3), (6, ((0, 4), (2, -3))))
        self.assertEqual(near(LINE, 7), (6, ((0, -3),)))

    def test_one_place_and_sixty(self):
        for spread in SPREADS:
            self.assertEqual(near(ONE, spread), ONE)
            self.assertEqual(near(LEVEL, spread), LEVEL)
        self.assertEqual(near(ZIGZAG, 1997), ZIGZAG)
        self.assertEqual(near(ZIGZAG, 1998), (60, ((0, -999),)))

    def test_it_has_the_least_value_of_each_piece(self):
        for values in all_lists():
            line = line_by_places(values)
            for spread in SPREADS:
                worths = []
                for first, last, least, greatest in fewest(line, spread):
                    worths += [least] * (last - first + 1)
                self.assertEqual(near(line, spread), line_by_places(worths))

    def test_no_more_steps_than_pieces_nowhere_above_and_nowhere_too_far_below(self):
        for values in all_lists():
            line = line_by_places(values)
            for spread in SPREADS:
                told = near(line, spread)
                self.assertLessEqual(len(told[1]), len(fewest(line, spread)))
                for worth, less in zip(values, plain(told), strict=True):
                    self.assertLessEqual(less, worth)
                    self.assertLessEqual(worth - less, spread)

    def test_there_is_none_of_fewer_steps(self):
        for values in short_lists(3, (0, 1, 2, 3)):
            for spread in range(4):
                told = near(line_by_places(values), spread)
                for other in itertools.product(*[range(worth - spread, worth + 1) for worth in values]):
                    self.assertGreaterEqual(len(line_by_places(other)[1]), len(told[1]))

    def test_kinds(self):
        self.plain_line(near(LINE, 3))


class BarTest(OfLines):
    def test_ordinary(self):
        # There is one bar alone of so many pairs for each of these.
        self.assertEqual(bar((3, ((0, 1), (1, 5), (2, 9))), 3), [(0, 1), (1, 2)])
        self.assertEqual(bar((4, ((0, 0), (1, 3), (2, 1), (3, 4))), 3), [(0, 3)])
        self.assertEqual(bar(LINE, 7), [])

    def test_one_place_and_sixty(self):
        for spread in SPREADS:
            self.assertEqual(bar(ONE, spread), [])
            self.assertEqual(bar(LEVEL, spread), [])
        for spread in (0, 1, 1997):
            self.assertEqual(bar(ZIGZAG, spread), [(place, place + 1) for place in range(59)])
        self.assertEqual(bar(ZIGZAG, 1998), [])

    def test_it_is_a_bar_of_one_pair_less_than_pieces(self):
        for values in all_lists():
            line = line_by_places(values)
            for spread in SPREADS:
                told = bar(line, spread)
                self.assertTrue(is_bar_by_words(values, spread, told))
                self.assertIs(is_bar(line, spread, told), True)
                self.assertEqual(len(told), len(fewest(line, spread)) - 1)

    def test_kinds(self):
        told = bar(LINE, 0)
        self.assertIs(told.__class__, list)
        for pair in told:
            self.assertIs(pair.__class__, tuple)
            self.assertEqual([place.__class__ for place in pair], [int, int])


class IsBarTest(OfLines):
    def test_ordinary(self):
        self.assertIs(is_bar(LINE, 6, [(0, 2)]), True)
        self.assertIs(is_bar(LINE, 6, [(1, 4)]), True)
        self.assertIs(is_bar(LINE, 2, [(1, 4), (4, 5)]), True)
        self.assertIs(is_bar(LINE, 2, [(1, 3), (4, 5)]), True)
        self.assertIs(is_bar(LINE, 3, [(0, 5)]), True)

    def test_the_empty_list(self):
        for line in (LINE, ONE, LEVEL, ZIGZAG):
            for spread in SPREADS:
                self.assertIs(is_bar(line, spread, []), True)

    def test_values_not_more_than_the_spread_apart(self):
        self.assertIs(is_bar(LINE, 7, [(0, 2)]), False)
        self.assertIs(is_bar(LINE, 3, [(0, 2), (2, 5)]), False)
        self.assertIs(is_bar(LINE, 0, [(0, 1)]), False)
        self.assertIs(is_bar(LINE, 4, [(0, 5)]), False)
        self.assertIs(is_bar(ZIGZAG, 1997, [(0, 59)]), True)
        self.assertIs(is_bar(ZIGZAG, 1998, [(0, 59)]), False)
        self.assertIs(is_bar(LEVEL, 0, [(0, 59)]), False)

    def test_values_that_rise_count_like_values_that_fall(self):
        self.assertIs(is_bar((2, ((0, 1), (1, 4))), 2, [(0, 1)]), True)
        self.assertIs(is_bar((2, ((0, 4), (1, 1))), 2, [(0, 1)]), True)
        self.assertIs(is_bar((2, ((0, 1), (1, 4))), 3, [(0, 1)]), False)
        self.assertIs(is_bar((2, ((0, 4), (1, 1))), 3, [(0, 1)]), False)

    def test_the_first_not_less_than_the_second(self):
        for place in range(6):
            self.assertIs(is_bar(LINE, 0, [(place, place)]), False)
        self.assertIs(is_bar(LINE, 0, [(2, 0)]), False)
        self.assertIs(is_bar(LINE, 0, [(5, 2)]), False)
        self.assertIs(is_bar(LINE, 0, [(0, 2), (5, 2)]), False)

    def test_pairs_that_overlap_or_are_not_in_order(self):
        self.assertIs(is_bar(ZIGZAG, 5, [(0, 3), (2, 5)]), False)
        self.assertIs(is_bar(ZIGZAG, 5, [(0, 3), (3, 6)]), True)
        self.assertIs(is_bar(ZIGZAG, 5, [(0, 3), (0, 3)]), False)
        self.assertIs(is_bar(ZIGZAG, 5, [(0, 5), (1, 2)]), False)
        self.assertIs(is_bar(ZIGZAG, 5, [(2, 3), (0, 1)]), False)
        self.assertIs(is_bar(ZIGZAG, 5, [(0, 1), (1, 2), (2, 3)]), True)
        self.assertIs(is_bar(ZIGZAG, 5, [(0, 1), (4, 7), (6, 9)]), False)

    def test_all_lists_of_pairs_of_a_short_line(self):
        pairs = list(itertools.product(range(-1, 5), repeat=2))
        lists = [[]] + [[pair] for pair in pairs] + [list(two) for two in itertools.product(pairs, repeat=2)]
        for values in ([0, 2, 1, 4], [3, 3, 0, 5], [1, 1, 1, 1], [0, 9, 0, 9]):
            for spread in (0, 1, 2, 8):
                for things in lists:
                    self.assertIs(is_bar(line_by_places(values), spread, things),
                                  is_bar_by_words(values, spread, things))

    def test_things_that_are_no_lists(self):
        for thing in no_numbers() + [0, 1, -1, 10 ** 30, (), ((0, 2),), ((0, 2), (2, 5)), (0, 2), {(0, 2)}, {(0, 2): 1},
                                     "[(0, 2)]", iter([(0, 2)]), LINE]:
            if thing != []:
                with self.subTest(repr(thing)):
                    self.assertIs(is_bar(LINE, 2, thing), False)

    def test_lists_of_other_things(self):
        for thing in no_pairs() + [[0, 2], [(0, 2)], (0, 2, 5), (0,), (), ((0, 2),), LINE]:
            with self.subTest(repr(thing)):
                self.assertIs(is_bar(LINE, 2, [thing]), False)
                self.assertIs(is_bar(LINE, 2, [(0, 2), thing]), False)
                self.assertIs(is_bar(LINE, 2, [thing, (0, 2)]), False)

    def test_pairs_of_other_things(self):
        for thing in no_places(6):
            with self.subTest(repr(thing)):
                for pair in ((thing, 2), (thing, 5), (0, thing), (2, thing), (thing, thing)):
                    self.assertIs(is_bar(LINE, 2, [pair]), False)
                    self.assertIs(is_bar(LINE, 2, [(0, 2), pair]), False)

    def test_true_and_false_as_places(self):
        line = (3, ((0, 0), (1, 5), (2, 0)))
        self.assertIs(is_bar(line, 2, [(0, 1), (1, 2)]), True)
        self.assertIs(is_bar(line, 2, [(False, 1), (1, 2)]), False)
        self.assertIs(is_bar(line, 2, [(0, True), (1, 2)]), False)
        self.assertIs(is_bar(line, 2, [(0, 1), (True, 2)]), False)

    def test_places_beyond_the_line(self):
        self.assertIs(is_bar(ZIGZAG, 2, [(58, 59)]), True)
        self.assertIs(is_bar(ZIGZAG, 2, [(59, 60)]), False)
        self.assertIs(is_bar(ZIGZAG, 2, [(-1, 1)]), False)
        # From the end on they would be far apart.
        self.assertIs(is_bar(ZIGZAG, 2, [(-2, -1)]), False)
        self.assertIs(is_bar(ONE, 0, [(0, 1)]), False)

    def test_a_list_that_holds_itself(self):
        thing = []
        thing.append(thing)
        self.assertIs(is_bar(LINE, 2, thing), False)
        self.assertIs(is_bar(LINE, 2, [(thing, thing)]), False)

    def test_numbers_that_are_none(self):
        for spread in no_spreads():
            for thing in ([], [(0, 2)], None):
                with self.subTest(spread=repr(spread), thing=repr(thing)):
                    self.refused(NoNumber, is_bar, LINE, spread, thing)

    def test_no_lines_first(self):
        for spread, thing in ((0, []), (0, None), (-1, []), (1999, None), (True, [(0, 1)]), (None, None)):
            self.no_line_first(is_bar, spread, thing)

    def test_the_thing_is_as_it_was(self):
        for thing in ([(0, 2)], [(0, 2), (2, 5)], [(2, 0), [1], None], [[0, 2]], []):
            self.same_each_time(is_bar, LINE, 2, thing)


class LeastSpreadTest(OfLines):
    def test_ordinary(self):
        self.assertEqual([least_spread(LINE, many) for many in (1, 2, 3, 4)], [7, 3, 0, 0])
        rising = line_by_places(list(range(60)))
        self.assertEqual([least_spread(rising, many) for many in (1, 2, 3, 4, 30, 59, 60)], [59, 29, 19, 14, 1, 1, 0])

    def test_one_place_and_sixty(self):
        for many in range(1, 61):
            self.assertEqual(least_spread(ONE, many), 0)
            self.assertEqual(least_spread(LEVEL, many), 0)
            self.assertEqual(least_spread(ZIGZAG, many), 0 if many == 60 else 1998)

    def test_it_is_the_least_one_of_all(self):
        for values in long_lists()[3:7] + mixed_lists()[40::5]:
            line = line_by_places(values)
            counts = [len(fewest(line, spread)) for spread in range(1999)]
            for many in range(1, 61):
                spread = min(spread for spread in range(1999) if counts[spread] <= many)
                self.assertEqual(least_spread(line, many), spread)

    def test_within_it_so_many_are_enough_and_within_one_less_they_are_not(self):
        for values in all_lists():
            line = line_by_places(values)
            for many in (1, 2, 3, 5, 17, 59, 60):
                spread = least_spread(line, many)
                self.assertIs(spread.__class__, int)
                self.assertLessEqual(least_many(values, spread), many)
                if spread > 0:
                    self.assertGreater(least_many(values, spread - 1), many)


class BothTest(OfLines):
    def test_ordinary(self):
        spread, pieces, pairs = both(LINE, 2)
        self.assertEqual((spread, pieces), (3, [(0, 1, 4, 4), (2, 5, -3, 0)]))
        self.assertTrue(is_bar_by_words(plain(LINE), 2, pairs))
        self.assertEqual(len(pairs), 2)

    def test_none_for_a_spread_of_0(self):
        self.assertEqual(both(LINE, 3), (0, [(0, 1, 4, 4), (2, 4, -3, -3), (5, 5, 0, 0)], []))
        for many in range(1, 61):
            self.assertEqual(both(ONE, many), (0, [(0, 0, 7, 7)], []))
            self.assertEqual(both(LEVEL, many), (0, [(0, 59, 5, 5)], []))
        self.assertEqual(both(ZIGZAG, 60), (0, fewest(ZIGZAG, 0), []))

    def test_the_greatest_spread(self):
        for many in range(1, 60):
            self.assertEqual(both(ZIGZAG, many), (1998, [(0, 59, -999, 999)], bar(ZIGZAG, 1997)))

    def test_for_1_to_60_pieces(self):
        for values in short_lists(4, (-1, 0, 2)) + long_lists() + mixed_lists()[::4]:
            line = line_by_places(values)
            for many in range(1, 61):
                spread, pieces, pairs = both(line, many)
                self.assertEqual(spread, least_spread(line, many))
                self.assertEqual(pieces, fewest(line, spread))
                self.assertLessEqual(len(pieces), many)
                if spread == 0:
                    self.assertEqual(pairs, [])
                else:
                    self.assertTrue(is_bar_by_words(values, spread - 1, pairs))
                    self.assertIs(is_bar(line, spread - 1, pairs), True)
                    self.assertGreaterEqual(len(pairs), many)

    def test_kinds(self):
        for many in (1, 2, 3):
            told = both(LINE, many)
            self.assertIs(told.__class__, tuple)
            self.assertEqual([thing.__class__ for thing in told], [int, list, list])


class ManyRefusedTest(OfLines):
    def test_numbers_that_are_none(self):
        for call in BY_MANY:
            for many in no_lengths():
                with self.subTest(call=call.__name__, many=repr(many)):
                    self.refused(NoNumber, call, LINE, many)
                    self.refused(NoNumber, call, ONE, many)

    def test_no_lines_first(self):
        for call in BY_MANY:
            for many in (1, 60, 0, 61, None, True):
                self.no_line_first(call, many)


class NothingIsChangedTest(OfLines):
    def test_equal_things_give_equal_answers_and_new_lists(self):
        for line in (LINE, ONE, LEVEL, ZIGZAG):
            for call in BY_SPREAD:
                for spread in SPREADS:
                    self.same_each_time(call, line, spread)
            for call in BY_MANY:
                for many in (1, 2, 60):
                    self.same_each_time(call, line, many)

    def test_lists_within_what_is_refused_are_as_they_were(self):
        steps = [(0, 2), (1, 1)]
        many = [3, 1]
        for call in BY_SPREAD + BY_MANY:
            self.refused(NoLine, call, (3, steps), 3)
            self.refused(NoNumber, call, LINE, many)
        pairs = [(2, 0), (0, 1)]
        self.refused(NoLine, is_bar, (3, steps), 3, pairs)
        self.refused(NoNumber, is_bar, LINE, many, pairs)
        self.assertEqual((steps, many, pairs), ([(0, 2), (1, 1)], [3, 1], [(2, 0), (0, 1)]))


if __name__ == "__main__":
    unittest.main()
