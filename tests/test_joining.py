"""[1] and [3]: lines put together, and lines cut."""

import unittest

from stepline import joining
from stepline.errors import NoLine, NoPlace, NoValue, TooGreat, Unlike
from stepline.joining import behind, cut, greater, lesser, mirrored, plus, put_in, times
from tests.things import OfLines, arguments, line_by_places, long_lists, no_places, no_values, short_lists

LINE = (6, ((0, 4), (2, -3), (5, 0)))
OTHER = (6, ((0, -4), (1, 2), (3, 9)))
SHORT = (2, ((0, 1),))
OF_TWO = (plus, lesser, greater)
ARGUMENTS = {
    "plus": ["one", "other"],
    "lesser": ["one", "other"],
    "greater": ["one", "other"],
    "times": ["line", "many"],
    "put_in": ["outer", "inner"],
    "behind": ["one", "other"],
    "cut": ["line", "first", "last"],
    "mirrored": ["line"],
}


def alike(lists):
    """All pairs of lists of one length."""
    return [(one, other) for one in lists for other in lists if len(one) == len(other)]


class InterfaceTest(unittest.TestCase):
    def test_names_and_arguments(self):
        self.assertEqual(arguments(joining, ARGUMENTS), ARGUMENTS)


class OfTwoTest(OfLines):
    def test_ordinary(self):
        self.assertEqual(plus(LINE, OTHER), (6, ((0, 0), (1, 6), (2, -1), (3, 6), (5, 9))))
        self.assertEqual(lesser(LINE, OTHER), (6, ((0, -4), (1, 2), (2, -3), (5, 0))))
        self.assertEqual(greater(LINE, OTHER), (6, ((0, 4), (2, 2), (3, 9))))

    def test_place_by_place_in_the_one_form(self):
        for one, other in alike(short_lists(4, (-1, 0, 1))):
            lines = (line_by_places(one), line_by_places(other))
            both = list(zip(one, other))
            self.assertEqual(plus(*lines), line_by_places([left + right for left, right in both]))
            self.assertEqual(lesser(*lines), line_by_places([min(left, right) for left, right in both]))
            self.assertEqual(greater(*lines), line_by_places([max(left, right) for left, right in both]))

    def test_long_ones_place_by_place(self):
        for one, other in alike(long_lists()):
            lines = (line_by_places(one), line_by_places(other))
            both = list(zip(one, other))
            self.assertEqual(lesser(*lines), line_by_places([min(left, right) for left, right in both]))
            self.assertEqual(greater(*lines), line_by_places([max(left, right) for left, right in both]))
            sums = [left + right for left, right in both]
            if min(sums) < -999 or max(sums) > 999:
                self.refused(TooGreat, plus, *lines)
            else:
                self.assertEqual(plus(*lines), line_by_places(sums))

    def test_steps_that_meet_fall_away(self):
        self.assertEqual(plus((3, ((0, 1), (1, 2))), (3, ((0, 2), (1, 1)))), (3, ((0, 3),)))
        self.assertEqual(lesser((3, ((0, 1), (1, 2))), (3, ((0, 2), (1, 1)))), (3, ((0, 1),)))
        self.assertEqual(greater((3, ((0, 1), (1, 2))), (3, ((0, 2), (1, 1)))), (3, ((0, 2),)))

    def test_sums_at_the_edges(self):
        self.assertEqual(plus((1, ((0, 998),)), (1, ((0, 1),))), (1, ((0, 999),)))
        self.assertEqual(plus((1, ((0, -998),)), (1, ((0, -1),))), (1, ((0, -999),)))
        self.assertEqual(plus((1, ((0, -999),)), (1, ((0, 999),))), (1, ((0, 0),)))
        self.refused(TooGreat, plus, (1, ((0, 999),)), (1, ((0, 1),)))
        self.refused(TooGreat, plus, (1, ((0, -1),)), (1, ((0, -999),)))
        self.refused(TooGreat, plus, (1, ((0, 999),)), (1, ((0, 999),)))
        self.refused(TooGreat, plus, (1, ((0, -999),)), (1, ((0, -999),)))

    def test_a_sum_beyond_at_one_place_alone(self):
        for place in range(60):
            values = [0] * 60
            values[place] = 500
            line = line_by_places(values)
            self.refused(TooGreat, plus, line, line)
            self.refused(TooGreat, plus, line_by_places([-worth for worth in values]),
                         line_by_places([-worth for worth in values]))

    def test_lesser_and_greater_at_the_edges(self):
        low, high = (2, ((0, -999),)), (2, ((0, 999),))
        self.assertEqual(lesser(low, high), low)
        self.assertEqual(greater(low, high), high)
        self.assertEqual(lesser(high, high), high)
        self.assertEqual(greater(low, low), low)

    def test_other_lengths(self):
        for call in OF_TWO:
            self.refused(Unlike, call, LINE, SHORT)
            self.refused(Unlike, call, SHORT, LINE)
            self.refused(Unlike, call, (1, ((0, 5),)), (2, ((0, 5),)))
            self.refused(Unlike, call, (60, ((0, 5),)), (59, ((0, 5),)))

    def test_unlike_is_told_ahead_of_too_great(self):
        self.refused(Unlike, plus, (1, ((0, 999),)), (2, ((0, 999),)))
        self.refused(Unlike, plus, (2, ((0, -999),)), (1, ((0, -999),)))

    def test_no_lines_first(self):
        for call in OF_TWO:
            self.no_line_first(call, LINE)
            self.no_line_first(call, SHORT)
            self.no_line_first(call, None)
            self.no_line_second(call, LINE)
            self.no_line_second(call, (3, ((0, 999),)))


class TimesTest(OfLines):
    def test_ordinary(self):
        self.assertEqual(times(LINE, 3), (6, ((0, 12), (2, -9), (5, 0))))
        self.assertEqual(times(LINE, -1), (6, ((0, -4), (2, 3), (5, 0))))
        self.assertEqual(times(LINE, 1), LINE)
        self.assertEqual(times(LINE, 0), (6, ((0, 0),)))

    def test_place_by_place(self):
        for values in short_lists(4, (-7, 0, 3)):
            for many in (-142, -3, -1, 0, 1, 2, 100):
                self.assertEqual(times(line_by_places(values), many), line_by_places([x * many for x in values]))

    def test_products_at_the_edges(self):
        self.assertEqual(times((1, ((0, 1),)), 999), (1, ((0, 999),)))
        self.assertEqual(times((1, ((0, 1),)), -999), (1, ((0, -999),)))
        self.assertEqual(times((1, ((0, -999),)), -1), (1, ((0, 999),)))
        self.assertEqual(times((1, ((0, 333),)), 3), (1, ((0, 999),)))
        self.assertEqual(times((1, ((0, 333),)), -3), (1, ((0, -999),)))
        self.assertEqual(times((3, ((0, 999), (1, -999))), 0), (3, ((0, 0),)))
        self.refused(TooGreat, times, (1, ((0, 500),)), 2)
        self.refused(TooGreat, times, (1, ((0, 500),)), -2)
        self.refused(TooGreat, times, (1, ((0, -500),)), 2)
        self.refused(TooGreat, times, (1, ((0, 40),)), 25)
        self.refused(TooGreat, times, (1, ((0, 40),)), -25)
        self.refused(TooGreat, times, (1, ((0, 2),)), 999)
        self.refused(TooGreat, times, (60, ((0, 0), (59, 2))), -999)

    def test_numbers_that_are_no_values(self):
        for many in no_values():
            with self.subTest(repr(many)):
                self.refused(NoValue, times, LINE, many)
                # Neither where the answer would be a line, nor where it would be too great.
                self.refused(NoValue, times, (2, ((0, 0),)), many)
                self.refused(NoValue, times, (2, ((0, 999),)), many)

    def test_no_lines_first(self):
        for many in (0, 1, 1000, None, True):
            self.no_line_first(times, many)


class PutInTest(OfLines):
    def test_ordinary(self):
        self.assertEqual(put_in(LINE, (3, ((0, 5), (1, 0), (2, 3)))), (3, ((0, 0), (1, 4), (2, -3))))
        self.assertEqual(put_in((2, ((0, 10), (1, 20))), (5, ((0, 1), (2, 0), (4, 1)))),
                         (5, ((0, 20), (2, 10), (4, 20))))
        self.assertEqual(put_in(LINE, (60, ((0, 5),))), (60, ((0, 0),)))

    def test_unlike_places_of_one_value_make_one_step(self):
        self.assertEqual(put_in(LINE, (3, ((0, 2), (1, 3), (2, 4)))), (3, ((0, -3),)))

    def test_place_by_place(self):
        for outer in short_lists(3, (-1, 0, 5)):
            for inner in short_lists(3, (0, 1, 2)):
                lines = (line_by_places(outer), line_by_places(inner))
                if max(inner) < len(outer):
                    self.assertEqual(put_in(*lines), line_by_places([outer[place] for place in inner]))
                else:
                    self.refused(Unlike, put_in, *lines)

    def test_sixty_places(self):
        outer = [place * 3 - 90 for place in range(60)]
        inner = [place * 7 % 60 for place in range(60)]
        self.assertEqual(put_in(line_by_places(outer), line_by_places(inner)),
                         line_by_places([outer[place] for place in inner]))

    def test_inner_values_that_are_no_places(self):
        for worth in (-1, -6, -999, 6, 7, 999):
            with self.subTest(worth):
                self.refused(Unlike, put_in, LINE, (1, ((0, worth),)))
                self.refused(Unlike, put_in, LINE, (4, ((0, 1), (3, worth))))
                self.refused(Unlike, put_in, LINE, (4, ((0, worth), (1, 2))))
        self.refused(Unlike, put_in, (1, ((0, 5),)), (1, ((0, 1),)))
        self.refused(Unlike, put_in, (60, ((0, 5),)), (1, ((0, 60),)))
        self.assertEqual(put_in((60, ((0, 5), (59, 6))), (1, ((0, 59),))), (1, ((0, 6),)))

    def test_no_lines_first(self):
        self.no_line_first(put_in, (1, ((0, 0),)))
        self.no_line_first(put_in, (1, ((0, 999),)))
        self.no_line_first(put_in, None)
        self.no_line_second(put_in, LINE)


class BehindTest(OfLines):
    def test_ordinary(self):
        self.assertEqual(behind(LINE, OTHER), (12, ((0, 4), (2, -3), (5, 0), (6, -4), (7, 2), (9, 9))))
        self.assertEqual(behind(SHORT, LINE), (8, ((0, 1), (2, 4), (4, -3), (7, 0))))
        self.assertEqual(behind(LINE, SHORT), (8, ((0, 4), (2, -3), (5, 0), (6, 1))))

    def test_one_value_on_both_sides_makes_one_step(self):
        self.assertEqual(behind((3, ((0, 2), (1, 5))), (2, ((0, 5), (1, 2)))), (5, ((0, 2), (1, 5), (4, 2))))
        self.assertEqual(behind(SHORT, SHORT), (4, ((0, 1),)))

    def test_place_by_place(self):
        lists = short_lists(3, (-1, 0, 1))
        for one in lists:
            for other in lists:
                self.assertEqual(behind(line_by_places(one), line_by_places(other)), line_by_places(one + other))

    def test_lengths_that_make_sixty_and_more(self):
        for first in range(1, 60):
            one, other = (first, ((0, 1),)), (60 - first, ((0, 2),))
            self.assertEqual(behind(one, other), (60, ((0, 1), (first, 2))))
            self.refused(TooGreat, behind, (first + 1, ((0, 1),)), other)
            self.refused(TooGreat, behind, one, (61 - first, ((0, 2),)))
            # Nor where it would be of one step.
            self.refused(TooGreat, behind, one, (61 - first, ((0, 1),)))
        self.refused(TooGreat, behind, (60, ((0, 1),)), (60, ((0, 1),)))

    def test_no_lines_first(self):
        for line in (LINE, (60, ((0, 1),))):
            self.no_line_first(behind, line)
            self.no_line_second(behind, line)
        self.no_line_first(behind, None)


class CutTest(OfLines):
    def test_ordinary(self):
        self.assertEqual(cut(LINE, 1, 4), (4, ((0, 4), (1, -3))))
        self.assertEqual(cut(LINE, 3, 5), (3, ((0, -3), (2, 0))))
        self.assertEqual(cut(LINE, 2, 4), (3, ((0, -3),)))

    def test_one_place_and_the_whole_line(self):
        self.assertEqual(cut(LINE, 0, 0), (1, ((0, 4),)))
        self.assertEqual(cut(LINE, 5, 5), (1, ((0, 0),)))
        self.assertEqual(cut(LINE, 0, 5), LINE)
        self.assertEqual(cut((1, ((0, 7),)), 0, 0), (1, ((0, 7),)))
        self.assertEqual(cut((60, ((0, 7), (59, 8))), 0, 59), (60, ((0, 7), (59, 8))))
        self.assertEqual(cut((60, ((0, 7), (59, 8))), 59, 59), (1, ((0, 8),)))

    def test_place_by_place(self):
        for values in short_lists(4, (-1, 0, 1)) + long_lists():
            line = line_by_places(values)
            for first in range(len(values)):
                for last in range(first, len(values)):
                    self.assertEqual(cut(line, first, last), line_by_places(values[first:last + 1]))

    def test_places_that_are_none(self):
        for place in no_places(6):
            with self.subTest(repr(place)):
                self.refused(NoPlace, cut, LINE, place, 5)
                self.refused(NoPlace, cut, LINE, place, 0)
                self.refused(NoPlace, cut, LINE, 0, place)
                self.refused(NoPlace, cut, LINE, 5, place)
                self.refused(NoPlace, cut, LINE, place, place)
        self.refused(NoPlace, cut, (1, ((0, 7),)), 0, 1)
        self.refused(NoPlace, cut, (60, ((0, 7),)), 0, 60)

    def test_the_wrong_way_round(self):
        for last in range(6):
            for first in range(last + 1, 6):
                self.refused(NoPlace, cut, LINE, first, last)

    def test_no_lines_first(self):
        for first, last in ((0, 0), (1, 0), (-1, 70), (None, None), (True, False)):
            self.no_line_first(cut, first, last)


class MirroredTest(OfLines):
    def test_ordinary(self):
        self.assertEqual(mirrored(LINE), (6, ((0, 0), (1, -3), (4, 4))))
        self.assertEqual(mirrored((1, ((0, -999),))), (1, ((0, -999),)))
        self.assertEqual(mirrored((60, ((0, 999), (1, 3)))), (60, ((0, 3), (59, 999))))

    def test_place_by_place(self):
        for values in short_lists(5, (-1, 0, 1)) + long_lists():
            line = line_by_places(values)
            self.assertEqual(mirrored(line), line_by_places(values[::-1]))
            self.assertEqual(mirrored(mirrored(line)), line)

    def test_no_lines(self):
        self.no_line_first(mirrored)


class NothingIsChangedTest(OfLines):
    def test_equal_things_give_equal_answers(self):
        for answer in (lambda: plus(LINE, OTHER), lambda: lesser(LINE, OTHER), lambda: greater(LINE, OTHER),
                       lambda: times(LINE, 7), lambda: put_in(LINE, (2, ((0, 5),))), lambda: behind(LINE, OTHER),
                       lambda: cut(LINE, 1, 3), lambda: mirrored(LINE)):
            self.assertEqual(answer(), answer())

    def test_lists_within_what_is_refused_are_as_they_were(self):
        steps = [(0, 1), (1, 2)]
        wrong = (3, steps)
        for call in OF_TWO + (put_in, behind, times):
            self.refused(NoLine, call, wrong, LINE)
        self.refused(NoLine, mirrored, wrong)
        self.refused(NoLine, cut, wrong, 0, 1)
        many = [3]
        self.refused(NoValue, times, LINE, many)
        self.refused(NoPlace, cut, LINE, many, many)
        self.assertEqual((steps, many), ([(0, 1), (1, 2)], [3]))

    def test_answers_are_tuples_throughout(self):
        for line in (plus(LINE, OTHER), lesser(LINE, OTHER), greater(LINE, OTHER), times(LINE, 7),
                     put_in(LINE, (2, ((0, 5), (1, 0)))), behind(LINE, OTHER), cut(LINE, 1, 3), mirrored(LINE)):
            self.plain_line(line)


if __name__ == "__main__":
    unittest.main()
