"""[1] and [16]: rising lines between a low line and a high one, counted and numbered."""

import itertools
import math
import unittest

from stepline import counting
from stepline.counting import how_many_rising, number_of, rising_at
from stepline.errors import NoLine, NoNumber, NoWay, Unlike
from stepline.lines import plain
from tests.things import OfLines, arguments, line_by_places, no_lines, no_numbers, short_lists

LOW = (3, ((0, 0), (2, 1)))
HIGH = (3, ((0, 1), (1, 3), (2, 2)))
# All that lie between these two, as their lists of values rise.
BETWEEN = [[0, 0, 1], [0, 0, 2], [0, 1, 1], [0, 1, 2], [0, 2, 2], [1, 1, 1], [1, 1, 2], [1, 2, 2]]
ONE_LOW, ONE_HIGH = (1, ((0, -999),)), (1, ((0, 999),))
ALL_LOW, ALL_HIGH = (60, ((0, -999),)), (60, ((0, 999),))
HOW_MANY = math.comb(1999 + 60 - 1, 60)
# Neither of these rises, and the one goes through the other one nowhere.
ROUGH_LOW = line_by_places([(place * 389 + 17) % 300 - 900 + place * 7 for place in range(60)])
ROUGH_HIGH = line_by_places([(place * 211 + 5) % 400 + 100 + place * 7 for place in range(60)])
ARGUMENTS = {
    "how_many_rising": ["low", "high"],
    "rising_at": ["low", "high", "number"],
    "number_of": ["low", "high", "line"],
}


def between_by_places(low, high):
    """The lists of values of all rising lines between two lists, rising, as the document's words have it."""
    ranges = [range(least, greatest + 1) for least, greatest in zip(low, high)]
    return sorted(list(values) for values in itertools.product(*ranges) if list(values) == sorted(values))


def short_pairs():
    """Two lists of one length each, of which the one is not always below the other one."""
    pairs = []
    for long in (1, 2, 3):
        lists = [values for values in short_lists(long, (-2, 0, 1)) if len(values) == long]
        highs = [values for values in short_lists(long, (-1, 1, 3)) if len(values) == long]
        pairs += list(itertools.product(lists, highs))
    return pairs + [([0, 0, 0, 0, 0], [2, 2, 2, 2, 2]), ([3, 0, 0, 0], [5, 9, 4, 6]), ([0, 2, 1, 4], [5, 3, 9, 4]),
                    ([-2, 0, -1, 0], [1, 4, 0, 3]), ([1, 1, 5], [2, 9, 4]), ([998, 997], [999, 999]),
                    ([-999, -999], [-998, -997])]


class InterfaceTest(unittest.TestCase):
    def test_names_and_arguments(self):
        self.assertEqual(arguments(counting, ARGUMENTS), ARGUMENTS)


class ShortLinesTest(OfLines):
    def test_ordinary(self):
        self.assertEqual(how_many_rising(LOW, HIGH), 8)
        self.assertEqual([plain(rising_at(LOW, HIGH, number)) for number in range(8)], BETWEEN)
        self.assertEqual([number_of(LOW, HIGH, line_by_places(values)) for values in BETWEEN], list(range(8)))

    def test_one_place(self):
        self.assertEqual(how_many_rising(ONE_LOW, ONE_HIGH), 1999)
        for number in (0, 1, 998, 999, 1998):
            self.assertEqual(rising_at(ONE_LOW, ONE_HIGH, number), (1, ((0, number - 999),)))
            self.assertEqual(number_of(ONE_LOW, ONE_HIGH, (1, ((0, number - 999),))), number)

    def test_a_line_and_itself(self):
        for values in ([7], [0] * 60, list(range(60)), [-999, -999, 999]):
            line = line_by_places(values)
            self.assertEqual(how_many_rising(line, line), 1)
            self.assertEqual(rising_at(line, line, 0), line)
            self.assertEqual(number_of(line, line, line), 0)

    def test_all_gone_through(self):
        for low, high in short_pairs():
            between = between_by_places(low, high)
            one, other = line_by_places(low), line_by_places(high)
            self.assertEqual(how_many_rising(one, other), len(between))
            for number, values in enumerate(between):
                line = line_by_places(values)
                self.assertEqual(rising_at(one, other, number), line)
                self.assertEqual(number_of(one, other, line), number)

    def test_lines_that_are_none_of_them(self):
        for low, high in short_pairs()[::5]:
            if len(low) <= 3:
                between = between_by_places(low, high)
                for values in itertools.product(range(-3, 5), repeat=len(low)):
                    if list(values) not in between:
                        self.refused(NoWay, number_of, line_by_places(low), line_by_places(high),
                                     line_by_places(values))

    def test_numbers_that_are_none_of_them(self):
        for low, high in short_pairs():
            many = len(between_by_places(low, high))
            for number in (-1, many, many + 1, -many - 1):
                self.refused(NoNumber, rising_at, line_by_places(low), line_by_places(high), number)

    def test_kinds(self):
        self.assertIs(how_many_rising(LOW, HIGH).__class__, int)
        self.assertIs(number_of(LOW, HIGH, rising_at(LOW, HIGH, 3)).__class__, int)
        self.plain_line(rising_at(LOW, HIGH, 3))


class LongLinesTest(OfLines):
    def check(self, low, high, numbers):
        """The lines of rising numbers rise, lie between, have these numbers, and are greater and greater."""
        ahead = None
        for number in numbers:
            line = rising_at(low, high, number)
            values = plain(line)
            self.assertEqual(values, sorted(values))
            for least, worth, greatest in zip(plain(low), values, plain(high), strict=True):
                self.assertTrue(least <= worth <= greatest)
            self.assertEqual(number_of(low, high, line), number)
            if ahead is not None:
                self.assertGreater(values, ahead)
            ahead = values

    def numbers(self, many):
        """Rising numbers below one of many figures."""
        return sorted({0, 1, 2, many - 2, many - 1} | {many * part // 11 + part for part in range(1, 11)})

    def test_all_rising_lines_of_sixty_places(self):
        self.assertEqual(how_many_rising(ALL_LOW, ALL_HIGH), HOW_MANY)
        self.assertGreater(len(str(HOW_MANY)), 100)
        self.check(ALL_LOW, ALL_HIGH, self.numbers(HOW_MANY))
        self.assertEqual(rising_at(ALL_LOW, ALL_HIGH, 0), ALL_LOW)
        self.assertEqual(rising_at(ALL_LOW, ALL_HIGH, 1), (60, ((0, -999), (59, -998))))
        self.assertEqual(rising_at(ALL_LOW, ALL_HIGH, 1999), (60, ((0, -999), (58, -998))))
        self.assertEqual(rising_at(ALL_LOW, ALL_HIGH, HOW_MANY - 1), ALL_HIGH)
        self.assertEqual(rising_at(ALL_LOW, ALL_HIGH, HOW_MANY - 2), (60, ((0, 998), (1, 999))))

    def test_between_lines_that_do_not_rise(self):
        many = how_many_rising(ROUGH_LOW, ROUGH_HIGH)
        self.assertGreater(len(str(many)), 50)
        self.check(ROUGH_LOW, ROUGH_HIGH, self.numbers(many))

    def test_two_values_at_each_place(self):
        low, high = (60, ((0, 0),)), (60, ((0, 1),))
        self.assertEqual(how_many_rising(low, high), 61)
        self.check(low, high, range(61))
        self.assertEqual(rising_at(low, high, 7), (60, ((0, 0), (53, 1))))

    def test_pairs_of_values_that_do_not_touch(self):
        low = line_by_places([2 * place for place in range(60)])
        high = line_by_places([2 * place + 1 for place in range(60)])
        self.assertEqual(how_many_rising(low, high), 2 ** 60)
        for number in (0, 1, 2 ** 59, 2 ** 60 - 1, 123456789012345678):
            bits = [number >> 59 - place & 1 for place in range(60)]
            line = line_by_places([2 * place + bit for place, bit in enumerate(bits)])
            self.assertEqual(rising_at(low, high, number), line)
            self.assertEqual(number_of(low, high, line), number)

    def test_numbers_that_are_none_of_them(self):
        for number in (-1, HOW_MANY, HOW_MANY + 1, -HOW_MANY, 10 ** 200, -10 ** 200, 10 ** 5000):
            self.refused(NoNumber, rising_at, ALL_LOW, ALL_HIGH, number)

    def test_lines_that_are_none_of_them(self):
        self.refused(NoWay, number_of, ALL_LOW, ALL_HIGH, (60, ((0, 1), (59, 0))))
        self.refused(NoWay, number_of, ALL_LOW, ALL_HIGH, (60, ((0, 999), (1, -999))))
        self.refused(NoWay, number_of, ROUGH_LOW, ROUGH_HIGH, ALL_LOW)
        self.refused(NoWay, number_of, ROUGH_LOW, ROUGH_HIGH, ALL_HIGH)
        self.refused(NoWay, number_of, ROUGH_LOW, ROUGH_HIGH, ROUGH_LOW)


class NoneBetweenTest(OfLines):
    PAIRS = [
        ((1, ((0, 1),)), (1, ((0, 0),))),
        ((3, ((0, 5),)), (3, ((0, 5), (2, 4)))),
        ((3, ((0, 0), (1, 6), (2, 0))), (3, ((0, 9), (2, 5)))),
        (ALL_HIGH, ALL_LOW),
        ((60, ((0, 1), (1, -999))), (60, ((0, 999), (59, 0)))),
        ((2, ((0, -5), (1, 999))), (2, ((0, 9), (1, 998)))),
    ]

    def test_there_are_0_and_no_number_is_one(self):
        for low, high in self.PAIRS:
            self.assertEqual(how_many_rising(low, high), 0)
            for number in (0, 1, -1):
                self.refused(NoNumber, rising_at, low, high, number)
            for line in (low, high, (low[0], ((0, 0),))):
                self.refused(NoWay, number_of, low, high, line)


class RefusedTest(OfLines):
    CALLS = [(how_many_rising, ()), (rising_at, (0,)), (number_of, (LOW,))]

    def test_no_lines_first(self):
        for call, rest in self.CALLS:
            for high in (HIGH, ONE_HIGH, None):
                self.no_line_first(call, high, *rest)
        for number in (-1, 8, None, True):
            self.no_line_first(rising_at, HIGH, number)
        for line in (None, ONE_LOW, (3, ((0, 9),))):
            self.no_line_first(number_of, HIGH, line)

    def test_no_high_lines_next(self):
        for thing in no_lines():
            with self.subTest(repr(thing)):
                for low in (LOW, ONE_LOW):
                    self.refused(NoLine, how_many_rising, low, thing)
                    for number in (0, -1, None):
                        self.refused(NoLine, rising_at, low, thing, number)
                    for line in (LOW, ONE_LOW, None):
                        self.refused(NoLine, number_of, low, thing, line)

    def test_other_lengths(self):
        for low, high in ((LOW, ONE_HIGH), (ONE_LOW, HIGH), (ALL_LOW, (59, ((0, 999),))), ((2, ((0, 0),)), HIGH)):
            self.refused(Unlike, how_many_rising, low, high)
            for number in [0, -1, 10 ** 300] + no_numbers():
                self.refused(Unlike, rising_at, low, high, number)
            for line in [low, high, LOW] + no_numbers():
                self.refused(Unlike, number_of, low, high, line)

    def test_numbers_that_are_none(self):
        for number in no_numbers() + [-1, 8, 9, -8, 10 ** 30, -10 ** 30]:
            with self.subTest(repr(number)):
                self.refused(NoNumber, rising_at, LOW, HIGH, number)

    def test_no_line_of_the_line(self):
        for thing in no_lines():
            with self.subTest(repr(thing)):
                self.refused(NoLine, number_of, LOW, HIGH, thing)
                # Neither where there is none between.
                self.refused(NoLine, number_of, HIGH, LOW, thing)

    def test_lines_of_another_length(self):
        for long in (1, 2, 4, 60):
            self.refused(NoWay, number_of, LOW, HIGH, (long, ((0, 1),)))

    def test_falling_ones_too_low_ones_and_too_high_ones(self):
        self.refused(NoWay, number_of, LOW, HIGH, line_by_places([1, 0, 1]))
        self.refused(NoWay, number_of, LOW, HIGH, line_by_places([0, 3, 2]))
        self.refused(NoWay, number_of, LOW, HIGH, line_by_places([0, 0, 0]))
        self.refused(NoWay, number_of, LOW, HIGH, line_by_places([-1, 0, 1]))
        self.refused(NoWay, number_of, LOW, HIGH, line_by_places([2, 2, 2]))
        self.refused(NoWay, number_of, LOW, HIGH, line_by_places([0, 3, 3]))


class NothingIsChangedTest(OfLines):
    def test_equal_things_give_equal_answers(self):
        for low, high in ((LOW, HIGH), (ONE_LOW, ONE_HIGH), (ROUGH_LOW, ROUGH_HIGH)):
            self.same_each_time(how_many_rising, low, high)
            self.same_each_time(rising_at, low, high, 5)
            self.same_each_time(number_of, low, high, rising_at(low, high, 5))

    def test_lists_within_what_is_refused_are_as_they_were(self):
        steps = [(0, 2), (1, 1)]
        number = [3, 1]
        wrong = (3, steps)
        for call, rest in RefusedTest.CALLS:
            self.refused(NoLine, call, wrong, HIGH, *rest)
            self.refused(NoLine, call, LOW, wrong, *rest)
        self.refused(NoLine, number_of, LOW, HIGH, wrong)
        self.refused(NoNumber, rising_at, LOW, HIGH, number)
        self.assertEqual((steps, number), ([(0, 2), (1, 1)], [3, 1]))


if __name__ == "__main__":
    unittest.main()
