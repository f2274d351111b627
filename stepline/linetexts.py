"""Lines written as texts, and texts read back."""

from stepline.checks import are_values, is_length
from stepline.errors import NoText
from stepline.lines import level_stretches, line_of, plain

# No number of a text has more signs than -999.
MOST_SIGNS = 4


def line_text(line):
    """The text of a line: its stretches of one value, each as how many places, an x, and the value."""
    return " ".join([f"{last - first + 1}x{worth}" for first, last, worth in level_stretches(plain(line))])


def read_number(text):
    """The number that a text has, or None, where it has none that a line has."""
    figures = text.removeprefix("-")
    # Python reads figures of other writings, too, and refuses in its own way where there are very many.
    if len(text) > MOST_SIGNS or not figures.isascii() or not figures.isdigit():
        return None
    return int(text)


def read_stretch(text):
    """The list of the values of a stretch that is written by a text."""
    many_text, sign, worth_text = text.partition("x")
    many = read_number(many_text)
    if not is_length(many):
        raise NoText("this is no stretch of a line")
    return [read_number(worth_text)] * many


def read_line(text):
    """The line that is written by a text."""
    if not isinstance(text, str):
        raise NoText("this is no text")
    values = []
    for part in text.split(" "):
        values.extend(read_stretch(part))
    # A line has one text alone, so what is read of another one, a needless 0 too, would be written otherwise.
    if not are_values(values) or line_text(line_of(values)) != text:
        raise NoText("this is no text of a line")
    return line_of(values)
