"""[1] over the whole program, and that the whole interface is there."""

import copy
import importlib
import unittest

from stepline import errors
from stepline.tracks import Track, do, run, woken
from tests.things import OfLines, lists_in, no_lines

# The values 4, 4, -3, -3, -3, 0, and 4, 5, 5, -3, -3, -3, and a rising one above both.
LINE = (6, ((0, 4), (2, -3), (5, 0)))
OTHER = (6, ((0, 4), (1, 5), (3, -3)))
RISING = (6, ((0, 5), (3, 6)))
DEEDS = [("put", 0, 3, 5), ("add", 9, 9, 9), ("undo",), ("lift", 0, 5, 2)]

# Each function of the interface but those of tracks, with what is handed in to it.
CALLS = {
    "lines": [("plain", (LINE,)), ("told", ([4, 4, -3],)), ("formed", (5, [(3, 2), (1, 7)])), ("value", (LINE, 3))],
    "joining": [("plus", (LINE, OTHER)), ("lesser", (LINE, OTHER)), ("greater", (LINE, OTHER)), ("times", (LINE, 2)),
                ("put_in", (LINE, RISING[:1] + (((0, 5), (3, 4)),))), ("behind", (LINE, OTHER)), ("cut", (LINE, 1, 4)),
                ("mirrored", (LINE,))],
    "asking": [("total", (LINE, 1, 4)), ("bounds", (LINE, 1, 4)), ("first_from", (LINE, 1, 0)),
               ("stretches", (LINE, 0, 4)), ("how_often", (LINE,)), ("below_at", (LINE, OTHER)), ("ordered", (LINE,))],
    "turning": [("is_rising", (LINE,)), ("turned", (RISING, 9)), ("turned_down", (RISING, 9)), ("under", (LINE,)),
                ("over", (LINE,)), ("fall", (LINE,))],
    "nearing": [("fewest", (LINE, 3)), ("near", (LINE, 3)), ("bar", (LINE, 3)), ("is_bar", (LINE, 3, [(1, 4)])),
                ("least_spread", (LINE, 2)), ("both", (LINE, 2))],
    "adding": [("sums", (LINE,)), ("gains", (LINE,)), ("shifted", (LINE, 2)), ("swells", (LINE,))],
    "hills": [("hills", (LINE,)), ("dales", (LINE,)), ("flooded", (LINE,)), ("water", (LINE,)), ("seen_from", (LINE,))],
    "windows": [("lowest", (LINE, 2)), ("highest", (LINE, 2)), ("middles", (LINE, 2)), ("best_window", (LINE, 2)),
                ("widest", (LINE, 3))],
    "linetexts": [("line_text", (LINE,)), ("read_line", ("2x4 3x-3 1x0",))],
    "counting": [("how_many_rising", (LINE, RISING)), ("rising_at", (LINE, RISING, 1)),
                 ("number_of", (LINE, RISING, RISING))],
    "comparing": [("unlike", (LINE, OTHER)), ("unlike_stretches", (LINE, OTHER)), ("deeds_between", (LINE, OTHER)),
                  ("half_way", (LINE, OTHER)), ("best_shift", (LINE, OTHER)), ("found_in", (LINE, (1, ((0, 4),))))],
}
# The functions that tell a list, or a tuple that has one.
TELL_LISTS = {"plain", "stretches", "how_often", "fewest", "bar", "both", "hills", "dales", "seen_from",
              "unlike_stretches", "deeds_between", "found_in"}
# The functions that are handed no line first.
NO_LINE_FIRST = {"told", "formed", "read_line"}


def calls():
    """All functions of the table, and what is handed in to each."""
    return [(getattr(importlib.import_module("stepline." + name), call), things)
            for name, rows in CALLS.items() for call, things in rows]


def spoil(told):
    """Change each list of an answer, at both ends and within."""
    for one in lists_in(told):
        one.insert(0, "another thing")
        one[1:2] = [None, None]
        one.append([])


class WholeProgramTest(OfLines):
    def test_lists_that_are_told_are_new_ones_each_time(self):
        told_lists = set()
        for call, things in calls():
            with self.subTest(call.__name__):
                kept = copy.deepcopy(call(*things))
                for again in range(3):
                    told = call(*things)
                    self.assertEqual(told, kept)
                    if lists_in(told):
                        told_lists.add(call.__name__)
                    spoil(told)
                self.assertEqual(call(*copy.deepcopy(things)), kept)
        self.assertEqual(told_lists, TELL_LISTS)

    def test_equal_things_give_equal_answers_and_are_as_they_were(self):
        for call, things in calls():
            with self.subTest(call.__name__):
                self.same_each_time(call, *things)

    def test_no_list_that_is_handed_in_is_told_or_kept(self):
        for call, things in calls():
            handed = [thing for thing in things if isinstance(thing, list)]
            if handed:
                with self.subTest(call.__name__):
                    kept = copy.deepcopy(things)
                    told = call(*things)
                    before = copy.deepcopy(told)
                    for thing in handed:
                        thing.append(thing[0])
                        self.assertEqual(told, before)
                        thing.pop()
                    self.assertEqual(things, kept)

    def test_what_is_no_line_is_refused_by_each_one(self):
        things_that_are_none = no_lines()[::5] + [(2, ((0, True), (1, 2))), (True, ((0, 1),)), (2, ((False, 1),))]
        for call, things in calls():
            if call.__name__ not in NO_LINE_FIRST:
                for thing in things_that_are_none:
                    with self.subTest(call=call.__name__, thing=repr(thing)):
                        self.refused(errors.NoLine, call, thing, *things[1:])

    def test_true_and_false_are_no_numbers(self):
        for call, things in calls():
            for at, thing in enumerate(things):
                if isinstance(thing, int):
                    for wrong in (True, False):
                        with self.subTest(call=call.__name__, at=at), self.assertRaises(errors.LineError):
                            call(*things[:at], wrong, *things[at + 1:])

    def test_tracks(self):
        first = run(6, 4, DEEDS)
        kept = copy.deepcopy(first)
        spoil(first)
        deeds = list(DEEDS)
        self.assertEqual(run(6, 4, deeds), kept)
        self.assertEqual(deeds, DEEDS)
        one, other = Track(6, 4), Track(6, 4)
        for deed in DEEDS:
            self.assertEqual(do(one, deed), do(other, deed))
            self.assertEqual((one.line(), one.saved()), (other.line(), other.saved()))
        self.assertEqual(woken(one.saved()).saved(), other.saved())


if __name__ == "__main__":
    unittest.main()
