"""[1], [10] and [11]: tracks, and the deeds that change them."""

import ast
import copy
import inspect
import itertools
import unittest

from stepline import tracks
from stepline.errors import NoDeed, NoPlace, NoStep, NoValue, TooGreat
from stepline.lines import plain
from stepline.tracks import Track, do, run, woken
from tests.things import (OfLines, Refusing, Strange, arguments, line_by_places, no_lengths, no_numbers, no_places,
                          no_values)

WORDS = ("put", "add", "lift", "press")
ARGUMENTS = {
    "woken": ["thing"],
    "do": ["track", "deed"],
    "run": ["long", "value", "deeds"],
}
METHODS = {
    "__init__": ["self", "long", "value"],
    "line": ["self"],
    "put": ["self", "first", "last", "value"],
    "add": ["self", "first", "last", "value"],
    "lift": ["self", "first", "last", "value"],
    "press": ["self", "first", "last", "value"],
    "undo": ["self"],
    "saved": ["self"],
}
# What each word makes of a value of the stretch, as the document's words have it.
BY_WORD = {
    "put": lambda worth, value: value,
    "add": lambda worth, value: worth + value,
    "lift": lambda worth, value: value if worth < value else worth,
    "press": lambda worth, value: value if worth > value else worth,
}
# Deeds, each right in its form, of which a track of six places from 0 on refuses the last ones.
DEEDS = [("put", 0, 3, 5), ("add", 2, 5, -7), ("lift", 0, 5, -1), ("press", 1, 1, 2), ("undo",), ("add", 0, 0, 0),
         ("put", 3, 2, 1), ("put", 0, 6, 1), ("lift", 0, 0, 1000), ("add", 0, 5, 999), ("press", None, "1", [])]


def no_deeds():
    """Things that are no deeds, each in one way."""
    things = no_numbers() + [0, 1, -1, "put", "undo", ("undo", "undo"), ("undo", None), ("undo", 0, 1, 2)]
    things += [["undo"], ["put", 0, 1, 2], {"undo"}, {"put": 1}, "undo,", b"undo", (b"undo",), (b"put", 0, 1, 2)]
    things += [("Put", 0, 1, 2), ("put ", 0, 1, 2), ("", 0, 1, 2), ("line",), ("saved",), ("Undo",), ("undo ",), ("",)]
    things += [("change", 0, 1, 2), ("__init__", 1, 1, 1), (("put", 0, 1, 2),), (("undo",),)]
    things += [(thing,) for thing in no_numbers()] + [(thing, 0, 1, 2) for thing in no_numbers()]
    for word in WORDS:
        things += [(word,), (word, 0), (word, 0, 1), (word, 0, 1, 2, 3), (word, 0, 1, 2, None), [word, 0, 1, 2]]
    return things


def stretches_of(long):
    """The first and the last places of all stretches of a line."""
    return [(first, last) for first in range(long) for last in range(first, long)]


def many_deeds(count, long):
    """Deeds of all words on stretches all over a line, not all of which alter it."""
    deeds = []
    state = 4711
    for at in range(count):
        state = (state * 1103515245 + 12345) % 2 ** 31
        ends = sorted(((state >> 8) % long, (state >> 16) % long))
        deeds.append((WORDS[(state >> 5) % 4], ends[0], ends[1], (state >> 12) % 9 - 4))
    return deeds


def track_of(values):
    """A track that has a list of values, behind a put for each of its places."""
    track = Track(len(values), 0)
    for place, worth in enumerate(values):
        track.put(place, place, worth)
    return track


def undo_all(track):
    """The lines behind each undo, as far as it goes."""
    lines = []
    while True:
        try:
            track.undo()
        except NoStep:
            return lines
        lines.append(track.line())


def plain_throughout(thing):
    """Whether a thing is of tuples, whole numbers, texts and None throughout."""
    if thing.__class__ is tuple:
        return all(plain_throughout(one) for one in thing)
    return thing is None or thing.__class__ in (int, str, bool)


class InterfaceTest(unittest.TestCase):
    def test_names_and_arguments(self):
        self.assertEqual(arguments(tracks, ARGUMENTS), ARGUMENTS)

    def test_each_method_is_defined_in_the_class_itself(self):
        for name, names in METHODS.items():
            with self.subTest(name):
                self.assertIn(name, vars(Track))
                self.assertEqual(list(inspect.signature(vars(Track)[name]).parameters), names)


class NewTrackTest(OfLines):
    def test_it_has_a_line_of_one_value(self):
        for long in (1, 2, 6, 59, 60):
            for worth in (-999, -1, 0, 1, 7, 999):
                line = Track(long, worth).line()
                self.assertEqual(line, (long, ((0, worth),)))
                self.plain_line(line)

    def test_lengths_that_are_none(self):
        for long in no_lengths():
            with self.subTest(repr(long)):
                self.refused(NoPlace, Track, long, 0)

    def test_values_that_are_none(self):
        for worth in no_values():
            with self.subTest(repr(worth)):
                self.refused(NoValue, Track, 1, worth)
                self.refused(NoValue, Track, 60, worth)

    def test_the_length_is_refused_ahead_of_the_value(self):
        for long in no_lengths():
            for worth in (None, True, -1000, 1000, "0"):
                with self.subTest(long=repr(long), worth=repr(worth)):
                    self.refused(NoPlace, Track, long, worth)

    def test_there_is_no_change_to_take_back(self):
        for long in (1, 60):
            track = Track(long, 3)
            self.refused(NoStep, track.undo)
            self.assertEqual(track.line(), (long, ((0, 3),)))


class ChangeTest(OfLines):
    def test_put(self):
        track = Track(6, 2)
        self.assertEqual(track.put(1, 3, 5), 3)
        self.assertEqual(plain(track.line()), [2, 5, 5, 5, 2, 2])
        self.assertEqual(track.put(3, 4, 5), 1)
        self.assertEqual(plain(track.line()), [2, 5, 5, 5, 5, 2])
        self.assertEqual(track.put(1, 4, 5), 0)
        self.assertEqual(track.put(0, 5, 2), 4)
        self.assertEqual(track.line(), (6, ((0, 2),)))

    def test_add(self):
        track = Track(6, 2)
        self.assertEqual(track.add(2, 4, -3), 3)
        self.assertEqual(plain(track.line()), [2, 2, -1, -1, -1, 2])
        self.assertEqual(track.add(0, 2, 10), 3)
        self.assertEqual(plain(track.line()), [12, 12, 9, -1, -1, 2])
        self.assertEqual(track.add(0, 5, 0), 0)
        self.assertEqual(plain(track.line()), [12, 12, 9, -1, -1, 2])

    def test_lift(self):
        track = track_of([0, 3, 1, 5, 2])
        self.assertEqual(track.lift(0, 3, 3), 2)
        self.assertEqual(plain(track.line()), [3, 3, 3, 5, 2])
        self.assertEqual(track.lift(0, 4, -999), 0)
        self.assertEqual(track.lift(0, 4, 5), 4)
        self.assertEqual(track.line(), (5, ((0, 5),)))

    def test_press(self):
        track = track_of([0, 3, 1, 5, 2])
        self.assertEqual(track.press(1, 3, 2), 2)
        self.assertEqual(plain(track.line()), [0, 2, 1, 2, 2])
        self.assertEqual(track.press(0, 4, 999), 0)
        self.assertEqual(track.press(0, 4, 0), 4)
        self.assertEqual(track.line(), (5, ((0, 0),)))

    def test_the_edges_of_lengths_and_values(self):
        for long in (1, 60):
            track = Track(long, 999)
            self.assertEqual(track.add(0, long - 1, -999), long)
            self.assertEqual(track.add(0, long - 1, -999), long)
            self.assertEqual(track.line(), (long, ((0, -999),)))
            self.assertEqual(track.put(long - 1, long - 1, 999), 1)
            self.assertEqual(track.lift(0, long - 1, 999), long - 1)
            self.assertEqual(track.press(0, 0, -999), 1)
            self.assertEqual(plain(track.line()), [-999] + [999] * (long - 1))

    def test_place_by_place_on_short_lines(self):
        for values in itertools.product((-2, 0, 3), repeat=3):
            for word in WORDS:
                for first, last in stretches_of(3):
                    for worth in (-3, -2, -1, 0, 1, 3, 4):
                        self.changed_by_places(track_of(values), list(values), word, first, last, worth)

    def test_place_by_place_on_long_lines(self):
        values = [(place * 389 + 17) % 41 - 20 for place in range(60)]
        for word in WORDS:
            for first, last in ((0, 0), (59, 59), (0, 59), (7, 7), (10, 48), (0, 58), (1, 59)):
                for worth in (-979, -20, -1, 0, 1, 5, 979):
                    self.changed_by_places(track_of(values), list(values), word, first, last, worth)

    def changed_by_places(self, track, values, word, first, last, worth):
        after = [BY_WORD[word](one, worth) if first <= place <= last else one for place, one in enumerate(values)]
        many = sum(1 for one, other in zip(values, after) if one != other)
        told = getattr(track, word)(first, last, worth)
        self.assertEqual((told, track.line()), (many, line_by_places(after)))
        self.assertIs(told.__class__, int)
        self.plain_line(track.line())
        track.undo()
        self.assertEqual(plain(track.line()), values)

    def test_many_changes_one_behind_the_other(self):
        track = Track(60, 0)
        values = [0] * 60
        for word, first, last, worth in many_deeds(300, 60):
            before = list(values)
            for place in range(first, last + 1):
                values[place] = BY_WORD[word](values[place], worth)
            self.assertEqual(getattr(track, word)(first, last, worth),
                             sum(1 for place in range(60) if before[place] != values[place]))
            self.assertEqual(track.line(), line_by_places(values))

    def test_lines_that_were_told_stay_as_they_were(self):
        track = Track(4, 0)
        line = track.line()
        track.put(1, 2, 5)
        self.assertEqual(line, (4, ((0, 0),)))
        self.assertEqual(track.line(), track.line())


class TooGreatTest(Refusing):
    def test_beyond_the_greatest_value(self):
        for long, place in ((1, 0), (6, 0), (6, 3), (6, 5), (60, 59)):
            track = Track(long, 0)
            track.put(place, place, 990)
            saved = track.saved()
            self.refused(TooGreat, track.add, 0, long - 1, 10)
            self.refused(TooGreat, track.add, place, place, 10)
            self.refused(TooGreat, track.add, 0, long - 1, 999)
            self.assertEqual(track.saved(), saved)
            self.assertEqual(track.add(0, long - 1, 9), long)

    def test_beyond_the_least_value(self):
        for long, place in ((1, 0), (6, 0), (6, 3), (6, 5), (60, 59)):
            track = Track(long, 0)
            track.put(place, place, -990)
            saved = track.saved()
            self.refused(TooGreat, track.add, 0, long - 1, -10)
            self.refused(TooGreat, track.add, place, place, -10)
            self.refused(TooGreat, track.add, 0, long - 1, -999)
            self.assertEqual(track.saved(), saved)
            self.assertEqual(track.add(0, long - 1, -9), long)

    def test_a_place_beside_the_stretch_does_not_count(self):
        track = track_of([999, 0, 999])
        self.assertEqual(track.add(1, 1, 999), 1)
        self.assertEqual(track.line(), (3, ((0, 999),)))

    def test_behind_it_the_track_is_as_before(self):
        track = track_of([1, 998, -998, 1])
        lines = undo_all(woken(track.saved()))
        for value in (2, -2, 999, -999):
            self.refused(TooGreat, track.add, 0, 3, value)
            self.refused(TooGreat, track.add, 1, 2, value)
            self.assertEqual(plain(track.line()), [1, 998, -998, 1])
        self.assertEqual(undo_all(track), lines)


class ChangeRefusedTest(Refusing):
    def setUp(self):
        self.track = Track(6, 0)
        self.track.put(1, 4, 7)
        self.before = self.track.saved()

    def tearDown(self):
        self.assertEqual(self.track.saved(), self.before)
        self.assertEqual(self.track.line(), (6, ((0, 0), (1, 7), (5, 0))))
        self.assertEqual(undo_all(self.track), [(6, ((0, 0),))])

    def test_places_that_are_none(self):
        for word in WORDS:
            change = getattr(self.track, word)
            for place in no_places(6):
                with self.subTest(word=word, place=repr(place)):
                    for first, last in ((place, 5), (place, 0), (0, place), (5, place), (place, place)):
                        self.refused(NoPlace, change, first, last, 1)

    def test_the_wrong_way_round(self):
        for word in WORDS:
            for last, first in itertools.combinations(range(6), 2):
                self.refused(NoPlace, getattr(self.track, word), first, last, 1)

    def test_values_that_are_none(self):
        for word in WORDS:
            for worth in no_values():
                with self.subTest(word=word, worth=repr(worth)):
                    self.refused(NoValue, getattr(self.track, word), 0, 5, worth)
                    self.refused(NoValue, getattr(self.track, word), 2, 2, worth)

    def test_the_place_is_refused_ahead_of_the_value(self):
        for word in WORDS:
            change = getattr(self.track, word)
            for worth in no_values():
                with self.subTest(word=word, worth=repr(worth)):
                    for first, last in ((0, 6), (-1, 0), (3, 2), (None, None), (True, False), (worth, 60)):
                        self.refused(NoPlace, change, first, last, worth)

    def test_the_place_and_the_value_ahead_of_too_great(self):
        self.refused(NoPlace, self.track.add, 0, 6, 999)
        self.refused(NoPlace, self.track.add, 4, 1, 999)
        self.refused(NoValue, self.track.add, 1, 4, 1000)
        self.refused(NoValue, self.track.add, 1, 4, -1998)
        self.refused(TooGreat, self.track.add, 1, 4, 993)


class UndoTest(Refusing):
    def test_behind_one_change(self):
        for word in WORDS:
            track = Track(6, 2)
            getattr(track, word)(1, 3, 1)
            self.assertIsNone(track.undo())
            self.assertEqual(track.line(), (6, ((0, 2),)))
            self.refused(NoStep, track.undo)
            self.assertEqual(track.line(), (6, ((0, 2),)))

    def test_one_behind_the_other_down_to_the_first_line_and_once_more(self):
        for count in (2, 7, 200):
            track = Track(60, 1)
            lines = [track.line()]
            for word, first, last, worth in many_deeds(count, 60):
                getattr(track, word)(first, last, worth)
                lines.append(track.line())
            for line in lines[-2::-1]:
                self.assertIsNone(track.undo())
                self.assertEqual(track.line(), line)
            self.assertEqual(track.line(), (60, ((0, 1),)))
            for again in range(3):
                self.refused(NoStep, track.undo)
                self.assertEqual(track.line(), (60, ((0, 1),)))

    def test_a_change_that_alters_nothing_is_one(self):
        track = Track(3, 2)
        track.put(0, 0, 5)
        line = track.line()
        self.assertEqual(track.put(0, 0, 5), 0)
        self.assertEqual(track.add(0, 2, 0), 0)
        self.assertEqual(track.lift(0, 2, 2), 0)
        self.assertEqual(track.press(0, 2, 5), 0)
        for again in range(4):
            track.undo()
            self.assertEqual(track.line(), line)
        track.undo()
        self.assertEqual(track.line(), (3, ((0, 2),)))
        self.refused(NoStep, track.undo)

    def test_a_refused_change_is_none(self):
        track = Track(3, 2)
        track.put(0, 0, 5)
        self.refused(NoPlace, track.put, 0, 3, 1)
        self.refused(NoValue, track.lift, 0, 2, 1000)
        self.refused(TooGreat, track.add, 0, 2, 995)
        track.undo()
        self.assertEqual(track.line(), (3, ((0, 2),)))
        self.refused(NoStep, track.undo)

    def test_changes_behind_an_undo(self):
        track = Track(3, 0)
        track.put(0, 0, 1)
        track.put(1, 1, 1)
        track.undo()
        track.put(2, 2, 1)
        self.assertEqual(plain(track.line()), [1, 0, 1])
        self.assertEqual([plain(line) for line in undo_all(track)], [[1, 0, 0], [0, 0, 0]])

    def test_an_undo_is_no_change(self):
        track = Track(3, 0)
        track.put(0, 2, 1)
        track.undo()
        self.refused(NoStep, track.undo)


class SavedTest(Refusing):
    def made(self, count):
        track = Track(60, 4)
        for word, first, last, worth in many_deeds(count, 60):
            getattr(track, word)(first, last, worth)
        return track

    def test_it_is_a_tuple_of_plain_things(self):
        for count in (0, 1, 5, 200):
            saved = self.made(count).saved()
            self.assertIs(saved.__class__, tuple)
            self.assertTrue(plain_throughout(saved))

    def test_it_is_told_alike_again_and_behind_the_same_calls(self):
        for count in (0, 1, 5, 200):
            track = self.made(count)
            self.assertEqual(track.saved(), track.saved())
            self.assertEqual(track.saved(), self.made(count).saved())

    def test_it_changes_nothing(self):
        track = self.made(5)
        line = track.line()
        track.saved()
        self.assertEqual(track.line(), line)
        self.assertEqual(undo_all(track), undo_all(self.made(5)))

    def test_what_was_told_stays_as_it_was(self):
        track = self.made(3)
        saved = track.saved()
        kept = copy.deepcopy(saved)
        track.put(0, 59, 9)
        track.undo()
        track.undo()
        woken(saved).put(0, 5, 8)
        woken(saved).undo()
        self.assertEqual(saved, kept)

    def test_woken_it_is_as_it_was(self):
        for count in (0, 1, 5, 200):
            track = self.made(count)
            again = woken(track.saved())
            self.assertIsInstance(again, Track)
            self.assertEqual(again.line(), track.line())
            self.assertEqual(again.saved(), track.saved())
            lines = undo_all(again)
            self.assertEqual(len(lines), count)
            self.assertEqual(lines, undo_all(track))

    def test_woken_it_goes_on_alike(self):
        track = self.made(5)
        again = woken(track.saved())
        for deed in many_deeds(40, 60)[20:] + [("undo",)] * 3 + [("add", 0, 59, 999), ("put", 60, 60, 1)]:
            self.assertEqual(do(again, deed), do(track, deed))
            self.assertEqual(again.line(), track.line())
        self.assertEqual(undo_all(again), undo_all(track))

    def test_neither_track_changes_the_other_one(self):
        track = self.made(5)
        first = track.line()
        saved = track.saved()
        one, other = woken(saved), woken(saved)
        one.put(0, 59, 77)
        one.put(0, 3, 78)
        self.assertEqual((track.line(), other.line()), (first, first))
        other.undo()
        other.undo()
        self.assertEqual(track.line(), first)
        track.put(0, 59, -77)
        self.assertEqual(plain(one.line()), [78] * 4 + [77] * 56)
        self.assertEqual([len(undo_all(one)), len(undo_all(other)), len(undo_all(track))], [7, 3, 6])

    def test_woken_of_an_equal_thing(self):
        track = self.made(5)
        thing = ast.literal_eval(repr(track.saved()))
        self.assertEqual(woken(thing).saved(), track.saved())

    def test_the_edges_of_lengths_and_values(self):
        for long in (1, 60):
            for worth in (-999, 0, 999):
                again = woken(Track(long, worth).saved())
                self.assertEqual(again.line(), (long, ((0, worth),)))
                self.refused(NoStep, again.undo)

    def test_tracks_do_not_share_what_they_keep(self):
        one, other = Track(3, 0), Track(3, 0)
        one.put(0, 2, 1)
        self.assertEqual(other.line(), (3, ((0, 0),)))
        self.refused(NoStep, other.undo)


class DoTest(Refusing):
    def test_each_deed(self):
        track = Track(6, 0)
        self.assertEqual(do(track, ("put", 0, 3, 5)), 4)
        self.assertEqual(plain(track.line()), [5, 5, 5, 5, 0, 0])
        self.assertEqual(do(track, ("add", 2, 5, -7)), 4)
        self.assertEqual(plain(track.line()), [5, 5, -2, -2, -7, -7])
        self.assertEqual(do(track, ("lift", 0, 5, -2)), 2)
        self.assertEqual(plain(track.line()), [5, 5, -2, -2, -2, -2])
        self.assertEqual(do(track, ("press", 1, 5, 2)), 1)
        self.assertEqual(plain(track.line()), [5, 2, -2, -2, -2, -2])
        self.assertIsNone(do(track, ("undo",)))
        self.assertEqual(plain(track.line()), [5, 5, -2, -2, -2, -2])
        self.assertEqual(do(track, ("press", 0, 5, 9)), 0)

    def test_it_tells_what_the_track_tells(self):
        one, other = Track(60, 0), Track(60, 0)
        for word, first, last, worth in many_deeds(80, 60):
            self.assertEqual(do(one, (word, first, last, worth)), getattr(other, word)(first, last, worth))
            self.assertEqual(one.line(), other.line())
        self.assertEqual(undo_all(one), undo_all(other))

    def test_what_the_track_refuses(self):
        track = Track(6, 0)
        self.assertEqual(do(track, ("undo",)), "refused")
        track.put(1, 1, 5)
        saved = track.saved()
        for word in WORDS:
            for place in no_places(6):
                self.assertEqual(do(track, (word, place, 5, 1)), "refused")
                self.assertEqual(do(track, (word, 0, place, 1)), "refused")
            for worth in no_values():
                self.assertEqual(do(track, (word, 0, 5, worth)), "refused")
            self.assertEqual(do(track, (word, 3, 2, 1)), "refused")
            self.assertEqual(do(track, (word, 0, 5, "undo")), "refused")
        self.assertEqual(do(track, ("add", 0, 5, 995)), "refused")
        self.assertEqual(track.saved(), saved)
        self.assertIsNone(do(track, ("undo",)))
        self.assertEqual(do(track, ("undo",)), "refused")

    def test_things_that_are_no_deeds(self):
        track = Track(6, 0)
        track.put(1, 1, 5)
        saved = track.saved()
        for thing in no_deeds():
            with self.subTest(repr(thing)):
                self.refused(NoDeed, do, track, thing)
        self.assertEqual(track.saved(), saved)

    def test_what_is_no_deed_is_none_even_where_the_track_would_refuse(self):
        track = Track(6, 0)
        self.refused(NoDeed, do, track, ("undo", 1))
        self.refused(NoDeed, do, track, ("put", 7, 7))
        self.refused(NoDeed, do, track, ("none", 7, 7, 1000))

    def test_lists_within_a_deed_are_as_they_were(self):
        track = Track(6, 0)
        things = [0, 1]
        self.assertEqual(do(track, ("put", things, things, things)), "refused")
        self.refused(NoDeed, do, track, things)
        self.assertEqual(things, [0, 1])


class RunTest(OfLines):
    def test_ordinary(self):
        self.assertEqual(run(6, 0, DEEDS), ((6, ((0, 5), (2, -1))), [4, 4, 4, 1, None, 0] + ["refused"] * 5))

    def test_no_deeds_at_all(self):
        for long in (1, 60):
            for worth in (-999, 0, 999):
                self.assertEqual(run(long, worth, []), ((long, ((0, worth),)), []))

    def test_what_is_refused_and_going_on(self):
        self.assertEqual(run(2, 1, [("undo",), ("put", 0, 2, 5), ("add", 0, 1, 999), ("add", 1, 1, 998), ("undo",),
                                    ("undo",), ("put", 0, 0, 0)]),
                         ((2, ((0, 0), (1, 1))), ["refused", "refused", "refused", 1, None, "refused", 1]))

    def test_like_a_track_step_by_step(self):
        for count in (1, 2, 30, 200):
            deeds = many_deeds(count, 60)
            deeds = deeds[:count // 2] + [("undo",)] * 3 + deeds[count // 2:]
            track = Track(60, 3)
            answers = [do(track, deed) for deed in deeds]
            self.assertEqual(run(60, 3, deeds), (track.line(), answers))

    def test_kinds(self):
        told = run(6, 0, DEEDS)
        self.assertIs(told.__class__, tuple)
        self.assertEqual(len(told), 2)
        self.plain_line(told[0])
        self.assertIs(told[1].__class__, list)

    def test_lengths_and_values_that_are_none(self):
        for long in no_lengths():
            with self.subTest(repr(long)):
                self.refused(NoPlace, run, long, 0, DEEDS)
                self.refused(NoPlace, run, long, 0, [])
        for worth in no_values():
            with self.subTest(repr(worth)):
                self.refused(NoValue, run, 6, worth, DEEDS)
                self.refused(NoValue, run, 6, worth, [])

    def test_things_that_are_no_deeds(self):
        for thing in no_deeds():
            with self.subTest(repr(thing)):
                self.refused(NoDeed, run, 6, 0, [thing])
                self.refused(NoDeed, run, 6, 0, [("put", 0, 5, 1), thing])
                self.refused(NoDeed, run, 6, 0, [thing, ("undo",)])

    def test_things_that_are_no_lists_of_deeds(self):
        for thing in no_numbers() + [0, 1, tuple(DEEDS), (), ("undo",), {("undo",)}, {("undo",): 1}, "undo",
                                     iter([("undo",)]), Strange()]:
            if thing != []:
                with self.subTest(repr(thing)):
                    self.refused(NoDeed, run, 6, 0, thing)

    def test_what_is_named_first(self):
        for deeds in (None, [None], [("put",)], ("undo",), DEEDS):
            for worth in (0, 1000, None, True):
                self.refused(NoPlace, run, 61, worth, deeds)
                self.refused(NoPlace, run, None, worth, deeds)
                self.refused(NoPlace, run, True, worth, deeds)
            self.refused(NoValue, run, 6, 1000, deeds)
            self.refused(NoValue, run, 6, None, deeds)
            self.refused(NoValue, run, 6, False, deeds)

    def test_equal_things_give_equal_answers_and_new_lists(self):
        self.same_each_time(run, 6, 0, DEEDS)
        self.same_each_time(run, 6, 0, [])
        self.same_each_time(run, 60, -3, many_deeds(50, 60))

    def test_lists_of_deeds_are_as_they_were(self):
        for error, long, worth, deeds in ((NoPlace, 0, 0, DEEDS), (NoValue, 1, 1000, DEEDS),
                                          (NoDeed, 6, 0, [("undo",), ["undo"], None])):
            before = copy.deepcopy(deeds)
            self.refused(error, run, long, worth, deeds)
            self.assertEqual(deeds, before)


if __name__ == "__main__":
    unittest.main()
