"""[1] and [12]: running totals, gains, lines shifted, and how often lines swell and sink."""

import unittest

from stepline import adding
from stepline.adding import gains, shifted, sums, swells
from stepline.errors import NoLine, NoNumber, TooGreat
from stepline.lines import plain
from tests.things import OfLines, arguments, line_by_places, long_lists, mixed_lists, no_numbers, short_lists

# The values 4, 4, -3, -3, -3, 0.
LINE = (6, ((0, 4), (2, -3), (5, 0)))
ONE = (1, ((0, 7),))
LONG = (60, ((0, -999), (30, 999)))
ARGUMENTS = {
    "sums": ["line"],
    "gains": ["line"],
    "shifted": ["line", "many"],
    "swells": ["line"],
}


def all_lists():
    return short_lists(4, (-500, -1, 0, 2, 600)) + long_lists() + mixed_lists()


def are_all_values(numbers):
    return all(-999 <= number <= 999 for number in numbers)


class InterfaceTest(unittest.TestCase):
    def test_names_and_arguments(self):
        self.assertEqual(arguments(adding, ARGUMENTS), ARGUMENTS)


class SumsTest(OfLines):
    def test_ordinary(self):
        self.assertEqual(plain(sums(LINE)), [4, 8, 5, 2, -1, -1])
        self.assertEqual(sums((5, ((0, 0), (2, 1), (3, 0)))), (5, ((0, 0), (2, 1))))

    def test_one_place_and_sixty(self):
        for worth in (-999, -1, 0, 7, 999):
            self.assertEqual(sums((1, ((0, worth),))), (1, ((0, worth),)))
        self.assertEqual(plain(sums((60, ((0, 16),)))), list(range(16, 961, 16)))
        self.assertEqual(plain(sums((60, ((0, -16),)))), list(range(-16, -961, -16)))
        self.assertEqual(sums((60, ((0, 0),))), (60, ((0, 0),)))
        zigzag = [999 if place % 2 == 0 else -999 for place in range(60)]
        self.assertEqual(plain(sums(line_by_places(zigzag))), [999, 0] * 30)

    def test_too_great_just_where_a_value_would_not_be_one(self):
        self.assertEqual(sums((2, ((0, 500), (1, 499)))), (2, ((0, 500), (1, 999))))
        self.refused(TooGreat, sums, (2, ((0, 500),)))
        self.assertEqual(sums((2, ((0, -500), (1, -499)))), (2, ((0, -500), (1, -999))))
        self.refused(TooGreat, sums, (2, ((0, -500),)))
        # In the middle alone it would be too great.
        self.refused(TooGreat, sums, (3, ((0, 999), (1, 1), (2, -999))))
        self.refused(TooGreat, sums, (3, ((0, -999), (1, -1), (2, 999))))
        self.refused(TooGreat, sums, (60, ((0, 17),)))
        self.refused(TooGreat, sums, LONG)

    def test_place_by_place(self):
        for values in all_lists():
            totals = [sum(values[:place + 1]) for place in range(len(values))]
            if are_all_values(totals):
                self.assertEqual(sums(line_by_places(values)), line_by_places(totals))
            else:
                self.refused(TooGreat, sums, line_by_places(values))

    def test_kinds(self):
        self.plain_line(sums(LINE))

    def test_no_lines(self):
        self.no_line_first(sums)


class GainsTest(OfLines):
    def test_ordinary(self):
        self.assertEqual(plain(gains(LINE)), [4, 0, -7, 0, 0, 3])
        self.assertEqual(gains((4, ((0, 1), (1, 2), (2, 3), (3, 4)))), (4, ((0, 1),)))

    def test_one_place_and_sixty(self):
        for worth in (-999, -1, 0, 7, 999):
            self.assertEqual(gains((1, ((0, worth),))), (1, ((0, worth),)))
            self.assertEqual(plain(gains((60, ((0, worth),)))), [worth] + [0] * 59)
        self.assertEqual(plain(gains(line_by_places(list(range(60))))), [0] + [1] * 59)
        self.assertEqual(plain(gains(line_by_places(list(range(60, 0, -1))))), [60] + [-1] * 59)

    def test_too_great_just_where_a_value_would_not_be_one(self):
        self.assertEqual(gains((2, ((0, -500), (1, 499)))), (2, ((0, -500), (1, 999))))
        self.refused(TooGreat, gains, (2, ((0, -500), (1, 500))))
        self.assertEqual(gains((2, ((0, 500), (1, -499)))), (2, ((0, 500), (1, -999))))
        self.refused(TooGreat, gains, (2, ((0, 500), (1, -500))))
        self.refused(TooGreat, gains, (60, ((0, 0), (58, 600), (59, -400))))
        self.refused(TooGreat, gains, LONG)

    def test_place_by_place(self):
        for values in all_lists():
            more = [worth - (values[place - 1] if place > 0 else 0) for place, worth in enumerate(values)]
            if are_all_values(more):
                self.assertEqual(gains(line_by_places(values)), line_by_places(more))
            else:
                self.refused(TooGreat, gains, line_by_places(values))

    def test_kinds(self):
        self.plain_line(gains(LINE))

    def test_no_lines(self):
        self.no_line_first(gains)


class SumsAndGainsTest(OfLines):
    def test_each_takes_the_other_one_back(self):
        there = back = 0
        for values in all_lists():
            line = line_by_places(values)
            if are_all_values([sum(values[:place + 1]) for place in range(len(values))]):
                self.assertEqual(gains(sums(line)), line)
                there += 1
            if are_all_values([right - left for left, right in zip(values, values[1:])]):
                self.assertEqual(sums(gains(line)), line)
                back += 1
        self.assertGreater(min(there, back), 100)


class ShiftedTest(OfLines):
    def test_ordinary(self):
        self.assertEqual(plain(shifted(LINE, 2)), [4, 4, 4, 4, -3, -3])
        self.assertEqual(plain(shifted((4, ((0, 1), (1, 2), (2, 3), (3, 4))), 1)), [1, 1, 2, 3])

    def test_by_0_by_its_length_and_by_60(self):
        for line in (LINE, ONE, LONG):
            self.assertEqual(shifted(line, 0), line)
            level = (line[0], ((0, line[1][0][1]),))
            self.assertEqual(shifted(line, line[0]), level)
            self.assertEqual(shifted(line, 60), level)
        self.assertEqual(shifted(LONG, 30), (60, ((0, -999),)))
        self.assertEqual(shifted(LONG, 29), (60, ((0, -999), (59, 999))))
        self.assertEqual(shifted(LONG, 59), (60, ((0, -999),)))
        self.assertEqual(shifted(LINE, 5), (6, ((0, 4),)))

    def test_place_by_place(self):
        for values in short_lists(4, (-1, 0, 2)) + long_lists() + mixed_lists():
            line = line_by_places(values)
            for many in (0, 1, 2, 3, 17, len(values) - 1, len(values), 59, 60):
                after = [values[place - many] if place >= many else values[0] for place in range(len(values))]
                self.assertEqual(shifted(line, many), line_by_places(after))

    def test_kinds(self):
        self.plain_line(shifted(LINE, 2))

    def test_numbers_that_are_none(self):
        for many in no_numbers() + [-1, -2, -60, 61, 62, 10 ** 30, -10 ** 30]:
            with self.subTest(repr(many)):
                for line in (LINE, ONE, LONG):
                    self.refused(NoNumber, shifted, line, many)

    def test_no_lines_first(self):
        for many in (0, 60, -1, 61, None, True):
            self.no_line_first(shifted, many)


class SwellsTest(OfLines):
    def test_ordinary(self):
        self.assertEqual(swells(LINE), (1, 1))
        self.assertEqual(swells((7, ((0, 1), (1, 3), (2, 5), (4, 4), (5, 9)))), (3, 1))

    def test_rising_falling_and_level_ones(self):
        self.assertEqual(swells(line_by_places(list(range(60)))), (59, 0))
        self.assertEqual(swells(line_by_places(list(range(60, 0, -1)))), (0, 59))
        for line in (ONE, (60, ((0, 0),)), (60, ((0, -999),)), (2, ((0, 999),))):
            self.assertEqual(swells(line), (0, 0))
        self.assertEqual(swells(LONG), (1, 0))
        self.assertEqual(swells(line_by_places([0, 1] * 30)), (30, 29))

    def test_place_by_place(self):
        for values in all_lists():
            ups = sum(1 for place in range(1, len(values)) if values[place] > values[place - 1])
            downs = sum(1 for place in range(1, len(values)) if values[place] < values[place - 1])
            self.assertEqual(swells(line_by_places(values)), (ups, downs))

    def test_kinds(self):
        self.assertIs(swells(LINE).__class__, tuple)
        self.assertEqual([number.__class__ for number in swells(LINE)], [int, int])

    def test_no_lines(self):
        self.no_line_first(swells)


class NothingIsChangedTest(OfLines):
    def test_equal_things_give_equal_answers(self):
        for line in (LINE, ONE):
            for call in (sums, gains, swells):
                self.same_each_time(call, line)
            for many in (0, 1, 60):
                self.same_each_time(shifted, line, many)

    def test_lists_within_what_is_refused_are_as_they_were(self):
        steps = [(0, 2), (1, 1)]
        many = [3, 1]
        for call in (sums, gains, swells):
            self.refused(NoLine, call, (3, steps))
        self.refused(NoLine, shifted, (3, steps), many)
        self.refused(NoNumber, shifted, LINE, many)
        self.assertEqual((steps, many), ([(0, 2), (1, 1)], [3, 1]))


if __name__ == "__main__":
    unittest.main()
