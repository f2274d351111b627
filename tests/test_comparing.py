"""[1] and [17]: how far lines are from one another, the deeds between them, and lines found in others."""

import unittest

from stepline import comparing
from stepline.comparing import best_shift, deeds_between, found_in, half_way, unlike, unlike_stretches
from stepline.errors import NoLine, NoWay, Unlike
from stepline.lines import plain
from stepline.tracks import Track, do
from tests.things import OfLines, arguments, line_by_places, long_lists, mixed_lists, no_lines, short_lists

# The values 4, 4, -3, -3, -3, 0, and 4, 5, 5, -3, -3, -3.
LINE = (6, ((0, 4), (2, -3), (5, 0)))
OTHER = (6, ((0, 4), (1, 5), (3, -3)))
ONE = (1, ((0, 7),))
LEAST, GREATEST = (60, ((0, -999),)), (60, ((0, 999),))
ZIGZAG = line_by_places([999 if place & 1 else -999 for place in range(60)])
OF_ONE_LENGTH = (unlike, unlike_stretches, deeds_between, half_way, best_shift)
ARGUMENTS = {call.__name__: ["one", "other"] for call in OF_ONE_LENGTH}
ARGUMENTS["found_in"] = ["line", "other"]


def pairs_of_lists():
    """Two lists of values of one length each, some of them alike."""
    lists = short_lists(3, (-1, 0, 2)) + [[0, 0, 1, 1], [0, 1, 1, 1], [1, 0, 0, 0], [0, 1, 0, 1], [1, 0, 1, 0]]
    lists += [[0, 0, 3, 3, 3, 0], [0, 2, 3, 0, 3, 3], [0, 0, 0, 3, 3, 3], [1, 1, 3, 3, 1, 1]]
    lists += long_lists() + mixed_lists()[-12:] + [values[1:] + values[:1] for values in mixed_lists()[-12:]]
    lists += [[worth if place % 7 else 1 for place, worth in enumerate(values)] for values in mixed_lists()[-12:]]
    return [(one, other) for one in lists for other in lists if len(one) == len(other)]


def as_long_as_can_be(holds):
    """The stretches at all of whose places a list has True, and beside which it has not."""
    marks = [False, *holds, False]
    firsts = [place for place in range(len(holds)) if holds[place] and not marks[place]]
    lasts = [place for place in range(len(holds)) if holds[place] and not marks[place + 2]]
    return list(zip(firsts, lasts, strict=True))


def puts_by_places(one, other):
    """The puts between two lists: for each value of the other one the stretches at which it is another value."""
    deeds = []
    for worth in sorted(set(other)):
        wanted = [left != right and right == worth for left, right in zip(one, other)]
        deeds += [("put", first, last, worth) for first, last in as_long_as_can_be(wanted)]
    return sorted(deeds, key=lambda deed: deed[1])


def unlike_if_moved(one, other, many):
    """At how many places two lists are unlike, if the other one is moved on by so many."""
    moved = ["nothing"] * many + other
    return sum(1 for place in range(len(one)) if one[place] != moved[place])


class InterfaceTest(unittest.TestCase):
    def test_names_and_arguments(self):
        self.assertEqual(arguments(comparing, ARGUMENTS), ARGUMENTS)


class UnlikeTest(OfLines):
    def test_ordinary(self):
        self.assertEqual(unlike(LINE, OTHER), (3, 8))
        self.assertEqual(unlike(OTHER, LINE), (3, 8))
        self.assertEqual(unlike_stretches(LINE, OTHER), [(1, 2), (5, 5)])
        self.assertEqual(unlike_stretches(OTHER, LINE), [(1, 2), (5, 5)])

    def test_a_line_and_itself(self):
        for line in (LINE, ONE, LEAST, ZIGZAG):
            self.assertEqual(unlike(line, line), (0, 0))
            self.assertEqual(unlike_stretches(line, line), [])

    def test_the_edges(self):
        self.assertEqual(unlike(LEAST, GREATEST), (60, 1998))
        self.assertEqual(unlike_stretches(LEAST, GREATEST), [(0, 59)])
        self.assertEqual(unlike(ZIGZAG, LEAST), (30, 1998))
        self.assertEqual(unlike_stretches(ZIGZAG, LEAST), [(place, place) for place in range(1, 60, 2)])
        self.assertEqual(unlike(ONE, (1, ((0, 8),))), (1, 1))
        self.assertEqual(unlike_stretches(ONE, (1, ((0, 8),))), [(0, 0)])

    def test_stretches_go_over_other_values(self):
        one, other = line_by_places([0, 1, 2, 3, 4]), line_by_places([0, 5, 6, 7, 4])
        self.assertEqual(unlike_stretches(one, other), [(1, 3)])

    def test_place_by_place(self):
        for one, other in pairs_of_lists():
            gaps = [abs(left - right) for left, right in zip(one, other)]
            lines = (line_by_places(one), line_by_places(other))
            self.assertEqual(unlike(*lines), (sum(1 for gap in gaps if gap), max(gaps)))
            self.assertEqual(unlike_stretches(*lines), as_long_as_can_be([gap > 0 for gap in gaps]))

    def test_kinds(self):
        self.assertIs(unlike(LINE, OTHER).__class__, tuple)
        self.assertEqual([number.__class__ for number in unlike(LINE, OTHER)], [int, int])
        told = unlike_stretches(LINE, OTHER)
        self.assertIs(told.__class__, list)
        for one in told:
            self.assertIs(one.__class__, tuple)
            self.assertEqual([number.__class__ for number in one], [int, int])


class DeedsBetweenTest(OfLines):
    def test_ordinary(self):
        self.assertEqual(deeds_between(LINE, OTHER), [("put", 1, 2, 5), ("put", 5, 5, -3)])
        self.assertEqual(deeds_between(OTHER, LINE), [("put", 1, 1, 4), ("put", 2, 2, -3), ("put", 5, 5, 0)])

    def test_a_line_and_itself(self):
        for line in (LINE, ONE, LEAST, ZIGZAG):
            self.assertEqual(deeds_between(line, line), [])

    def test_a_place_that_is_alike_parts_a_stretch(self):
        one, other = line_by_places([0, 5, 0, 0]), line_by_places([5, 5, 5, 5])
        self.assertEqual(deeds_between(one, other), [("put", 0, 0, 5), ("put", 2, 3, 5)])

    def test_another_value_parts_a_stretch(self):
        one, other = line_by_places([0, 0, 0, 0]), line_by_places([1, 1, 2, 1])
        self.assertEqual(deeds_between(one, other), [("put", 0, 1, 1), ("put", 2, 2, 2), ("put", 3, 3, 1)])

    def test_a_value_of_0_is_put_as_well(self):
        self.assertEqual(deeds_between(ONE, (1, ((0, 0),))), [("put", 0, 0, 0)])
        self.assertEqual(deeds_between(LEAST, (60, ((0, 0),))), [("put", 0, 59, 0)])

    def test_the_edges(self):
        self.assertEqual(deeds_between(LEAST, GREATEST), [("put", 0, 59, 999)])
        self.assertEqual(deeds_between(GREATEST, LEAST), [("put", 0, 59, -999)])
        self.assertEqual(deeds_between(LEAST, ZIGZAG), [("put", place, place, 999) for place in range(1, 60, 2)])

    def test_place_by_place(self):
        for one, other in pairs_of_lists():
            self.assertEqual(deeds_between(line_by_places(one), line_by_places(other)), puts_by_places(one, other))

    def test_they_lead_from_the_one_to_the_other_one(self):
        for one, other in pairs_of_lists():
            track = Track(len(one), 0)
            for place, worth in enumerate(one):
                track.put(place, place, worth)
            for deed in deeds_between(line_by_places(one), line_by_places(other)):
                # Each place that is put has another value then, so none that is alike is put.
                self.assertEqual(do(track, deed), deed[2] - deed[1] + 1)
            self.assertEqual(track.line(), line_by_places(other))

    def test_kinds(self):
        told = deeds_between(LINE, OTHER)
        self.assertIs(told.__class__, list)
        for deed in told:
            self.assertIs(deed.__class__, tuple)
            self.assertEqual([thing.__class__ for thing in deed], [str, int, int, int])


class HalfWayTest(OfLines):
    def test_ordinary(self):
        self.assertEqual(plain(half_way(LINE, OTHER)), [4, 4, 1, -3, -3, -2])

    def test_rounded_down_below_0_too(self):
        one = line_by_places([-1, -2, -3, 1, 0, 2, -999, 999])
        other = line_by_places([0, -1, 0, -2, 1, 1, -998, 998])
        self.assertEqual(plain(half_way(one, other)), [-1, -2, -2, -1, 0, 1, -999, 998])
        self.assertEqual(half_way(other, one), half_way(one, other))

    def test_the_edges(self):
        self.assertEqual(half_way(LEAST, GREATEST), (60, ((0, 0),)))
        for line in (LINE, ONE, LEAST, GREATEST, ZIGZAG):
            self.assertEqual(half_way(line, line), line)

    def test_place_by_place(self):
        for one, other in pairs_of_lists():
            values = plain(half_way(line_by_places(one), line_by_places(other)))
            self.assertEqual(len(values), len(one))
            for half, left, right in zip(values, one, other):
                self.assertIn(left + right - 2 * half, (0, 1))

    def test_kinds(self):
        self.plain_line(half_way(LINE, OTHER))


class BestShiftTest(OfLines):
    def test_ordinary(self):
        one = line_by_places([0, 0, 1, 2, 3, 4])
        self.assertEqual(best_shift(one, line_by_places([1, 2, 3, 4, 9, 9])), 2)
        self.assertEqual(best_shift(one, line_by_places([0, 1, 2, 3, 4, 9])), 1)
        self.assertEqual(best_shift(line_by_places([1, 2, 3, 4, 9, 9]), one), 0)
        # At the last place alone there is one that is alike.
        self.assertEqual(best_shift(line_by_places([1, 1, 1, 5]), line_by_places([5, 0, 0, 0])), 3)

    def test_a_line_and_itself(self):
        for line in (LINE, ONE, LEAST, ZIGZAG):
            self.assertEqual(best_shift(line, line), 0)

    def test_the_places_ahead_are_unlike(self):
        # By 1 there are as many places that are alike; by 0 there are no places ahead.
        self.assertEqual(best_shift(line_by_places([5, 5, 5]), line_by_places([5, 5, 0])), 0)
        self.assertEqual(best_shift(ZIGZAG, (60, ((0, 999),))), 0)

    def test_the_least_of_several(self):
        self.assertEqual(best_shift(LEAST, GREATEST), 0)
        self.assertEqual(best_shift(line_by_places([0, 7, 7]), line_by_places([7, 1, 1])), 1)
        self.assertEqual(best_shift(line_by_places([0, 0, 7, 8, 0]), line_by_places([7, 1, 8, 2, 2])), 1)
        self.assertEqual(best_shift(ONE, (1, ((0, 8),))), 0)

    def test_the_greatest_shift(self):
        self.assertEqual(best_shift((60, ((0, 0), (59, 5))), (60, ((0, 5), (1, 6)))), 59)

    def test_place_by_place(self):
        told = []
        for one, other in pairs_of_lists():
            counts = [unlike_if_moved(one, other, many) for many in range(len(one))]
            best = min(range(len(one)), key=lambda many: (counts[many], many))
            self.assertEqual(best_shift(line_by_places(one), line_by_places(other)), best)
            told.append(best)
        self.assertGreater(len(set(told)), 3)

    def test_kinds(self):
        self.assertIs(best_shift(LINE, OTHER).__class__, int)


class RefusedTest(OfLines):
    def test_other_lengths(self):
        for call in OF_ONE_LENGTH:
            for one, other in ((LINE, ONE), (ONE, LINE), (LEAST, (59, ((0, 0),))), ((2, ((0, 7),)), ONE)):
                self.refused(Unlike, call, one, other)

    def test_no_lines_first(self):
        for call in OF_ONE_LENGTH + (found_in,):
            for line in (LINE, ONE, LEAST, None):
                self.no_line_first(call, line)
            for line in (LINE, ONE, LEAST):
                self.no_line_second(call, line)


class FoundInTest(OfLines):
    def test_ordinary(self):
        self.assertEqual(found_in(LINE, (2, ((0, 4), (1, -3)))), [1])
        self.assertEqual(found_in(LINE, (2, ((0, -3),))), [2, 3])
        self.assertEqual(found_in(LINE, (1, ((0, 4),))), [0, 1])
        self.assertEqual(found_in(LINE, (2, ((0, -3), (1, 0)))), [4])
        self.assertEqual(found_in(LINE, (2, ((0, 0), (1, 4)))), [])
        self.assertEqual(found_in(LINE, (1, ((0, 5),))), [])

    def test_places_that_overlap(self):
        line = line_by_places([1, 2, 1, 2, 1, 3, 1, 2, 1])
        self.assertEqual(found_in(line, line_by_places([1, 2, 1])), [0, 2, 6])
        self.assertEqual(found_in(LEAST, (59, ((0, -999),))), [0, 1])
        self.assertEqual(found_in(LEAST, (7, ((0, -999),))), list(range(54)))
        self.assertEqual(found_in(ZIGZAG, (2, ((0, 999), (1, -999)))), list(range(1, 59, 2)))

    def test_one_as_long(self):
        for line in (LINE, ONE, LEAST, ZIGZAG):
            self.assertEqual(found_in(line, line), [0])
        self.assertEqual(found_in(LINE, OTHER), [])
        self.assertEqual(found_in(LEAST, GREATEST), [])
        self.assertEqual(found_in(ONE, (1, ((0, 8),))), [])

    def test_at_the_first_and_the_last_place(self):
        line = line_by_places([5, 0, 0, 5])
        self.assertEqual(found_in(line, (1, ((0, 5),))), [0, 3])
        self.assertEqual(found_in((60, ((0, 0), (59, 1))), (1, ((0, 1),))), [59])

    def test_place_by_place(self):
        lists = short_lists(4, (0, 1)) + long_lists()
        shorter = short_lists(3, (0, 1)) + [[999, -999, 999], [0] * 59, [-4] * 7 + [-3]]
        for values in lists:
            for wanted in shorter:
                if len(wanted) <= len(values):
                    places = [first for first in range(len(values))
                              if [values[place] for place in range(first, min(first + len(wanted), len(values)))] == wanted]
                    self.assertEqual(found_in(line_by_places(values), line_by_places(wanted)), places)

    def test_longer_ones(self):
        self.refused(NoWay, found_in, ONE, LINE)
        self.refused(NoWay, found_in, ONE, (2, ((0, 7),)))
        self.refused(NoWay, found_in, (59, ((0, 999),)), GREATEST)
        self.refused(NoWay, found_in, LINE, (7, ((0, 4), (2, -3), (5, 0))))

    def test_no_line_ahead_of_no_way(self):
        for thing in no_lines():
            with self.subTest(repr(thing)):
                self.refused(NoLine, found_in, thing, LEAST)
                self.refused(NoLine, found_in, ONE, thing)

    def test_kinds(self):
        for told in (found_in(LINE, (1, ((0, 4),))), found_in(LINE, OTHER)):
            self.assertIs(told.__class__, list)
            for place in told:
                self.assertIs(place.__class__, int)


class NothingIsChangedTest(OfLines):
    def test_equal_things_give_equal_answers_and_new_lists(self):
        for call in OF_ONE_LENGTH + (found_in,):
            for one, other in ((LINE, OTHER), (LINE, LINE), (LEAST, ZIGZAG), (ONE, ONE)):
                self.same_each_time(call, one, other)

    def test_lists_within_what_is_refused_are_as_they_were(self):
        steps = [(0, 2), (1, 1)]
        for call in OF_ONE_LENGTH + (found_in,):
            self.refused(NoLine, call, (3, steps), LINE)
            self.refused(NoLine, call, LINE, (3, steps))
        self.assertEqual(steps, [(0, 2), (1, 1)])


if __name__ == "__main__":
    unittest.main()
