"""[1] and [2]: lines, the lists of their values, and rows."""

import copy
import unittest

from stepline import lines
from stepline.errors import NoLine, NoPlace, NoRows
from stepline.lines import formed, plain, told, value
from tests.things import (Refusing, arguments, line_by_places, long_lists, no_lengths, no_lines, no_numbers, no_pairs,
                          no_places, no_values, short_lists)

LINE = (6, ((0, 4), (2, -3), (5, 0)))
VALUES = [4, 4, -3, -3, -3, 0]
ARGUMENTS = {"plain": ["line"], "told": ["values"], "formed": ["long", "rows"], "value": ["line", "place"]}


def values_of_rows(long, rows):
    """What [2] says of rows, place by place."""
    values = []
    for at in range(long):
        ahead = [place for place, worth in rows if place <= at]
        values.append([worth for place, worth in rows if place == max(ahead)][-1] if ahead else 0)
    return values


class InterfaceTest(unittest.TestCase):
    def test_names_and_arguments(self):
        self.assertEqual(arguments(lines, ARGUMENTS), ARGUMENTS)


class PlainTest(Refusing):
    def test_ordinary(self):
        self.assertEqual(plain(LINE), VALUES)
        self.assertEqual(plain((3, ((0, 7),))), [7, 7, 7])
        self.assertEqual(plain((3, ((0, 7), (1, 8), (2, 7)))), [7, 8, 7])

    def test_one_place_and_sixty(self):
        self.assertEqual(plain((1, ((0, 0),))), [0])
        self.assertEqual(plain((60, ((0, 0),))), [0] * 60)
        self.assertEqual(plain((60, ((0, 0), (59, 1)))), [0] * 59 + [1])
        self.assertEqual(plain((60, tuple((place, place) for place in range(60)))), list(range(60)))

    def test_least_and_greatest_values(self):
        self.assertEqual(plain((2, ((0, -999), (1, 999)))), [-999, 999])

    def test_lengths_beyond(self):
        self.refused(NoLine, plain, (0, ((0, 1),)))
        self.refused(NoLine, plain, (0, ()))
        self.refused(NoLine, plain, (61, ((0, 1),)))

    def test_values_beyond(self):
        self.refused(NoLine, plain, (2, ((0, -1000), (1, 999))))
        self.refused(NoLine, plain, (2, ((0, -999), (1, 1000))))

    def test_no_lines(self):
        for thing in no_lines():
            with self.subTest(repr(thing)):
                self.refused(NoLine, plain, thing)

    def test_a_line_that_holds_itself(self):
        steps = []
        steps.append(steps)
        self.refused(NoLine, plain, (3, steps))
        self.refused(NoLine, plain, (3, (steps,)))
        self.refused(NoLine, plain, steps)

    def test_a_new_list_each_time(self):
        first = plain(LINE)
        second = plain(LINE)
        self.assertIsInstance(first, list)
        self.assertIsNot(first, second)
        first[0] = 99
        first.append(5)
        self.assertEqual(second, VALUES)
        self.assertEqual(plain(LINE), VALUES)
        self.assertEqual(LINE, (6, ((0, 4), (2, -3), (5, 0))))

    def test_a_list_within_what_is_refused_is_as_it_was(self):
        steps = [(0, 1), (0, 2)]
        self.refused(NoLine, plain, (3, steps))
        self.assertEqual(steps, [(0, 1), (0, 2)])


class ToldTest(Refusing):
    def test_ordinary(self):
        self.assertEqual(told(VALUES), LINE)
        self.assertEqual(told([7, 8, 7]), (3, ((0, 7), (1, 8), (2, 7))))
        self.assertEqual(told([0, 0, 0]), (3, ((0, 0),)))

    def test_kinds(self):
        line = told(VALUES)
        self.assertIs(line.__class__, tuple)
        self.assertIs(line[1].__class__, tuple)
        for step in line[1]:
            self.assertIs(step.__class__, tuple)

    def test_one_and_sixty(self):
        self.assertEqual(told([5]), (1, ((0, 5),)))
        self.assertEqual(told([5] * 60), (60, ((0, 5),)))
        self.assertEqual(told(list(range(60))), (60, tuple((place, place) for place in range(60))))

    def test_lengths_beyond(self):
        self.refused(NoRows, told, [])
        self.refused(NoRows, told, [5] * 61)
        self.refused(NoRows, told, [5] * 100)

    def test_least_and_greatest_values(self):
        self.assertEqual(told([-999, 999]), (2, ((0, -999), (1, 999))))
        self.refused(NoRows, told, [-1000, 999])
        self.refused(NoRows, told, [-999, 1000])

    def test_no_lists(self):
        for thing in no_pairs() + no_lines():
            # These two are lists of values.
            if thing != [1] and thing != [0, 1]:
                with self.subTest(repr(thing)):
                    self.refused(NoRows, told, thing)
        self.refused(NoRows, told, (1, 2))
        self.refused(NoRows, told, LINE)

    def test_no_values_within(self):
        for thing in no_values():
            for values in ([thing], [thing, 1, 2], [1, thing, 2], [1, 2, thing]):
                with self.subTest(repr(values)):
                    self.refused(NoRows, told, values)

    def test_the_list_is_as_it_was_and_not_kept(self):
        values = list(VALUES)
        line = told(values)
        self.assertEqual(values, VALUES)
        values[0] = 9
        values.append(1)
        self.assertEqual(line, LINE)
        wrong = [3, 1, 1000]
        self.refused(NoRows, told, wrong)
        self.assertEqual(wrong, [3, 1, 1000])

    def test_told_and_plain_back(self):
        for values in short_lists(5, (-2, 0, 1)) + long_lists():
            line = told(values)
            self.assertEqual(line, line_by_places(values))
            self.assertEqual(plain(line), values)
            self.assertEqual(told(plain(line)), line)
            self.assertEqual(told(list(values)), line)

    def test_lines_are_the_same_just_if_all_values_are(self):
        lists = short_lists(4, (0, 1))
        for one in lists:
            for other in lists:
                self.assertEqual(told(one) == told(other), one == other)


class FormedTest(Refusing):
    def test_ordinary(self):
        self.assertEqual(formed(6, [(0, 4), (2, -3), (5, 0)]), LINE)
        self.assertEqual(formed(5, [(0, 1), (3, 2)]), (5, ((0, 1), (3, 2))))

    def test_rows_in_any_order(self):
        self.assertEqual(formed(6, [(5, 0), (0, 4), (2, -3)]), LINE)
        self.assertEqual(formed(6, [(2, -3), (5, 0), (0, 4)]), LINE)

    def test_of_several_at_one_place_the_last_one(self):
        self.assertEqual(formed(4, [(1, 9), (1, 3), (1, 5)]), (4, ((0, 0), (1, 5))))
        self.assertEqual(formed(4, [(1, 5), (3, 2), (1, -5), (0, 8)]), (4, ((0, 8), (1, -5), (3, 2))))
        self.assertEqual(formed(4, [(0, 8), (2, 7), (2, 8)]), (4, ((0, 8),)))

    def test_no_rows(self):
        self.assertEqual(formed(1, []), (1, ((0, 0),)))
        self.assertEqual(formed(60, []), (60, ((0, 0),)))

    def test_ahead_of_the_first_row_it_has_0(self):
        self.assertEqual(formed(5, [(2, 3)]), (5, ((0, 0), (2, 3))))
        self.assertEqual(formed(5, [(4, 3)]), (5, ((0, 0), (4, 3))))
        self.assertEqual(formed(5, [(2, 0), (4, 1)]), (5, ((0, 0), (4, 1))))

    def test_rows_of_one_value_make_one_step(self):
        self.assertEqual(formed(5, [(0, 3), (1, 3), (2, 3), (4, 1)]), (5, ((0, 3), (4, 1))))

    def test_sixty_rows_and_one_more(self):
        rows = [(place, place % 2) for place in range(60)]
        self.assertEqual(formed(60, rows), (60, tuple((place, place % 2) for place in range(60))))
        self.assertEqual(formed(1, [(0, worth) for worth in range(60)]), (1, ((0, 59),)))
        self.refused(NoRows, formed, 60, rows + [(0, 0)])
        self.refused(NoRows, formed, 1, [(0, worth) for worth in range(61)])
        self.refused(NoRows, formed, 1, [(0, 0)] * 61)

    def test_place_by_place(self):
        cases = [
            (7, [(6, 1), (3, 2), (3, -1), (5, 2), (1, 0)]),
            (7, [(3, 2), (6, 1), (3, -1), (0, -1), (5, 2)]),
            (60, [(place * 17 % 60, place * 41 % 1999 - 999) for place in range(60)]),
            (60, [(place * 7 % 13 + 20, place - 30) for place in range(60)]),
            (60, [(59, -999), (58, 999)]),
            (2, [(1, 5), (1, 0)]),
        ]
        for long, rows in cases:
            with self.subTest(long=long, rows=rows):
                self.assertEqual(formed(long, rows), line_by_places(values_of_rows(long, rows)))

    def test_lengths_that_are_none(self):
        for long in no_lengths():
            with self.subTest(repr(long)):
                self.refused(NoPlace, formed, long, [])
                self.refused(NoPlace, formed, long, [(0, 1)])

    def test_the_length_is_refused_first(self):
        for long in no_lengths():
            for rows in (None, [None], [(0, 1000)], [(0, 0)] * 61, ((0, 1),)):
                with self.subTest(long=repr(long), rows=repr(rows)):
                    self.refused(NoPlace, formed, long, rows)

    def test_rows_that_are_no_list(self):
        for rows in no_numbers() + [0, 1, ((0, 1),), {(0, 1)}, {(0, 1): 1}, iter([(0, 1)]), LINE]:
            if rows != []:
                with self.subTest(repr(rows)):
                    self.refused(NoRows, formed, 3, rows)

    def test_rows_with_a_thing_that_is_no_row(self):
        for thing in no_pairs():
            with self.subTest(repr(thing)):
                self.refused(NoRows, formed, 3, [thing])
                self.refused(NoRows, formed, 3, [(0, 1), thing])
                self.refused(NoRows, formed, 3, [thing, (0, 1)])

    def test_rows_with_another_place(self):
        for place in no_places(3):
            with self.subTest(repr(place)):
                self.refused(NoRows, formed, 3, [(place, 1)])
                self.refused(NoRows, formed, 3, [(2, 1), (place, 1), (1, 1)])
        self.assertEqual(formed(3, [(2, 1)]), (3, ((0, 0), (2, 1))))
        self.refused(NoRows, formed, 60, [(60, 1)])
        self.refused(NoRows, formed, 1, [(1, 1)])

    def test_rows_with_another_value(self):
        for worth in no_values():
            with self.subTest(repr(worth)):
                self.refused(NoRows, formed, 3, [(0, worth)])
                # A later row at this place does not make up for it.
                self.refused(NoRows, formed, 3, [(0, worth), (0, 1)])
        self.assertEqual(formed(2, [(0, -999), (1, 999)]), (2, ((0, -999), (1, 999))))

    def test_the_list_is_as_it_was_and_not_kept(self):
        rows = [(3, 1), (0, 2), (3, 4)]
        line = formed(5, rows)
        self.assertEqual(rows, [(3, 1), (0, 2), (3, 4)])
        self.assertEqual(formed(5, rows), line)
        rows.clear()
        self.assertEqual(line, (5, ((0, 2), (3, 4))))
        wrong = [(3, 1), (0, 2), (5, 4), [1, 2]]
        before = copy.deepcopy(wrong)
        self.refused(NoRows, formed, 5, wrong)
        self.refused(NoPlace, formed, 0, wrong)
        self.assertEqual(wrong, before)


class ValueTest(Refusing):
    def test_ordinary(self):
        self.assertEqual([value(LINE, place) for place in range(6)], VALUES)
        self.assertEqual(value((1, ((0, -999),)), 0), -999)
        self.assertEqual(value((60, ((0, 1), (59, 999))), 59), 999)
        self.assertEqual(value((60, ((0, 1), (59, 999))), 58), 1)

    def test_place_by_place(self):
        for values in short_lists(4, (-1, 0, 2)) + long_lists():
            line = line_by_places(values)
            self.assertEqual([value(line, place) for place in range(len(values))], values)

    def test_no_places(self):
        for place in no_places(6):
            with self.subTest(repr(place)):
                self.refused(NoPlace, value, LINE, place)
        self.refused(NoPlace, value, (1, ((0, 5),)), 1)
        self.refused(NoPlace, value, (60, ((0, 5),)), 60)

    def test_no_lines(self):
        for thing in no_lines():
            with self.subTest(repr(thing)):
                self.refused(NoLine, value, thing, 0)

    def test_the_line_is_refused_first(self):
        for thing in no_lines():
            for place in (-1, 60, None, True):
                with self.subTest(thing=repr(thing), place=repr(place)):
                    self.refused(NoLine, value, thing, place)


if __name__ == "__main__":
    unittest.main()
