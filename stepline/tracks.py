"""Tracks: lines that are kept while stretches of them are changed, and the deeds that change them."""

from stepline.asking import stretch_values
from stepline.checks import need_length, need_value
from stepline.errors import LineError, NoDeed, NoStep
from stepline.lines import fitted, line_of, plain

# How many things a deed has, its word too, by its word.
DEED_COUNTS = {"put": 4, "add": 4, "lift": 4, "press": 4, "undo": 1}


class Track:
    """A line that is kept while stretches of it are changed, and the changes that can be taken back."""

    def __init__(self, long, value):
        need_length(long)
        need_value(value)
        # The first line, then the one behind each change: whole lines, so that a change is taken back by leaving it.
        self.lines = [line_of([value] * long)]

    def line(self):
        """The line now."""
        return self.lines[-1]

    def asked(self, first, last, value):
        """The values of a stretch that is to be changed by a value; refused where it is no stretch, or no value."""
        values = stretch_values(self.line(), first, last)
        need_value(value)
        return values

    def change(self, first, worths):
        """Give the places from a first one on these values; told is how many have another one then."""
        before = plain(self.line())
        after = before[:first] + worths + before[first + len(worths):]
        self.lines.append(fitted(after))
        return len([place for place, worth in enumerate(after) if before[place] != worth])

    def put(self, first, last, value):
        """Put a stretch to a value."""
        return self.change(first, [value] * len(self.asked(first, last, value)))

    def add(self, first, last, value):
        """Let a stretch have so much more."""
        return self.change(first, [worth + value for worth in self.asked(first, last, value)])

    def lift(self, first, last, value):
        """Lift a stretch to a value, where it has less."""
        return self.change(first, [max(worth, value) for worth in self.asked(first, last, value)])

    def press(self, first, last, value):
        """Press a stretch to a value, where it has more."""
        return self.change(first, [min(worth, value) for worth in self.asked(first, last, value)])

    def undo(self):
        """Take the last change back."""
        if len(self.lines) == 1:
            raise NoStep("there is no change to take back")
        self.lines.pop()

    def saved(self):
        """The track as a tuple of its lines, the first one ahead."""
        return tuple(self.lines)


def woken(thing):
    """The track of what saved told."""
    track = Track(1, 0)
    track.lines = list(thing)
    return track


def is_deed(thing):
    """Whether a thing is a deed, whatever it asks for."""
    if not isinstance(thing, tuple) or len(thing) == 0 or not isinstance(thing[0], str):
        return False
    return DEED_COUNTS.get(thing[0]) == len(thing)


def change_by(track, word, first, last, value):
    """What a track tells of the change that a word names."""
    if word == "put":
        return track.put(first, last, value)
    if word == "add":
        return track.add(first, last, value)
    if word == "lift":
        return track.lift(first, last, value)
    return track.press(first, last, value)


def do(track, deed):
    """What a track tells of a deed, or "refused", where the track refuses it."""
    if not is_deed(deed):
        raise NoDeed("this is no deed")
    try:
        if deed[0] == "undo":
            return track.undo()
        return change_by(track, *deed)
    except LineError:
        return "refused"


def run(long, value, deeds):
    """The line behind a list of deeds, done on a new track, and the list of what was told of each."""
    track = Track(long, value)
    if not isinstance(deeds, list):
        raise NoDeed("this is no list of deeds")
    answers = [do(track, deed) for deed in deeds]
    return (track.line(), answers)
