"""[1] and [15]: lines written as texts, and texts read back."""

import itertools
import unittest

from stepline import linetexts
from stepline.errors import NoLine, NoText
from stepline.linetexts import line_text, read_line
from tests.things import OfLines, Refusing, arguments, line_by_places, long_lists, mixed_lists, no_numbers, short_lists

# The values 4, 4, -3, -3, -3, 0.
LINE = (6, ((0, 4), (2, -3), (5, 0)))
ONE = (1, ((0, 7),))
LONG = (60, ((0, -999), (30, 999)))
ARGUMENTS = {"line_text": ["line"], "read_line": ["text"]}
# Lines, and their texts.
WRITTEN = [
    (LINE, "2x4 3x-3 1x0"),
    (ONE, "1x7"),
    (LONG, "30x-999 30x999"),
    ((24, ((0, -5), (3, 0), (4, 999))), "3x-5 1x0 20x999"),
    ((1, ((0, 0),)), "1x0"),
    ((1, ((0, -999),)), "1x-999"),
    ((1, ((0, 999),)), "1x999"),
    ((60, ((0, 0),)), "60x0"),
    ((60, ((0, -999),)), "60x-999"),
    ((60, ((0, 999),)), "60x999"),
    ((10, ((0, 10),)), "10x10"),
    ((60, ((0, -10), (59, 100))), "59x-10 1x100"),
]


def all_lists():
    return short_lists(4, (-1, 0, 2)) + long_lists() + mixed_lists()


def text_by_places(values):
    """The text of a list of values, as the document's words have it."""
    return " ".join(f"{len(list(group))}x{worth}" for worth, group in itertools.groupby(values))


class InterfaceTest(unittest.TestCase):
    def test_names_and_arguments(self):
        self.assertEqual(arguments(linetexts, ARGUMENTS), ARGUMENTS)


class LineTextTest(OfLines):
    def test_ordinary_and_the_edges(self):
        for line, text in WRITTEN:
            self.assertEqual(line_text(line), text)
            self.assertIs(line_text(line).__class__, str)

    def test_the_longest_one(self):
        values = [-999 + place % 2 for place in range(60)]
        self.assertEqual(line_text(line_by_places(values)), " ".join(["1x-999", "1x-998"] * 30))

    def test_place_by_place(self):
        for values in all_lists():
            self.assertEqual(line_text(line_by_places(values)), text_by_places(values))

    def test_no_lines(self):
        self.no_line_first(line_text)
        for thing in ("1x7", [7], "2x4 3x-3 1x0"):
            self.refused(NoLine, line_text, thing)


class ReadLineTest(OfLines):
    def test_ordinary_and_the_edges(self):
        for line, text in WRITTEN:
            self.assertEqual(read_line(text), line)
            self.plain_line(read_line(text))

    def test_each_text_is_read_back(self):
        for values in all_lists():
            line = line_by_places(values)
            self.assertEqual(read_line(line_text(line)), line)

    def test_each_value_and_each_length(self):
        for worth in range(-999, 1000):
            self.assertEqual(read_line(f"1x{worth}"), (1, ((0, worth),)))
        for long in range(1, 61):
            self.assertEqual(read_line(f"{long}x-1"), (long, ((0, -1),)))

    def test_the_longest_one(self):
        values = [-999 + place % 2 for place in range(60)]
        self.assertEqual(read_line(" ".join(["1x-999", "1x-998"] * 30)), line_by_places(values))


class NoTextTest(Refusing):
    def none(self, *texts):
        for text in texts:
            with self.subTest(repr(text)):
                self.refused(NoText, read_line, text)

    def test_empty_ones_and_other_words(self):
        self.none("", " ", "x", "line", "3", "3x", "x5", "3 5", "3x5x", "3x5x1", "3xx5", "35", "-", "3x-", "-x-", "None",
                  "(1, ((0, 7),))", "3*5", "3X5", "3,5", "3x5,1x0", "3x5;", "3x5 x", "3x5 1", "3x5 1x", "a3x5", "3x5a")

    def test_needless_figures_and_signs(self):
        self.none("3x05", "3x00", "3x-05", "03x5", "00003x5", "3x-0", "3x-00", "2x4 1x-0", "1x000", "1x0999", "1x-0999")
        self.none("3x+5", "+3x5", "3x+0", "-3x5", "-0x5", "3x--5", "--3x5", "3x-+5", "3x+-5", "3x5-", "3x-5-")
        self.none("1_0x5", "10x1_0", "3x5.0", "3x5.", "3x1e2", "0x3x5", "3x0x5", "3x0b1", "3x5L")

    def test_blanks(self):
        self.none("3x5  1x0", " 3x5", "3x5 ", "3x5 1x0 ", " 3x5 1x0", "3 x5", "3x 5", "3x- 5", "3 x 5", "3x5\t1x0",
                  "3x5\n1x0", "3x5\u00a01x0", "3x5\u20031x0", "3x51x0", "\t3x5", "3x5\t", "3x5\x0b", "3x5\x0c1x0")

    def test_a_lines_end_behind(self):
        self.none("3x5\n", "3x5\r", "3x5\r\n", "\n3x5", "3x5 1x0\n", "3\nx5", "3x\n5", "3x5\x00", "3x5\x85", "3x5\u2028")

    def test_two_stretches_of_one_value_beside_one_another(self):
        self.none("3x5 1x5", "1x0 1x0", "2x4 3x-3 1x-3", "30x999 30x999", "1x1 1x2 1x2", " ".join(["1x7"] * 60))
        self.assertEqual(read_line("3x5 1x4 1x5"), (5, ((0, 5), (3, 4), (4, 5))))

    def test_no_places_and_too_many(self):
        self.none("0x5", "0x5 1x4", "1x4 0x5", "1x4 0x5 1x3", "0x0", "00x5")
        self.none("61x5", "99x5", "100x5", "60x5 1x4", "30x5 31x4", "999999999x5", "9" * 30 + "x5", "9" * 6000 + "x5")
        self.none(" ".join(["1x1", "1x2"] * 30 + ["1x1"]), " ".join(["60x1", "60x2"] * 2000))
        self.assertEqual(read_line("30x5 30x4"), (60, ((0, 5), (30, 4))))

    def test_values_beyond_the_bounds(self):
        self.none("3x1000", "3x-1000", "3x9999", "3x-9999", "1x5 1x1000", "3x" + "9" * 30, "3x-" + "9" * 6000,
                  "3x" + "0" * 6000 + "1")

    def test_figures_in_other_writings(self):
        self.none("\u0663x5", "3x\u0665", "3x-\u0665", "\uff13x5", "3x\uff15", "3x\u00b2", "\u00b2x5", "3x\u2460",
                  "3x\u0967", "3\u00d75", "3x\u22125", "3\u0445" + "5", "1x\u06f0", "\u2167x5", "1\u0663x5", "3x5\u0300")

    def test_things_that_are_no_texts(self):
        self.none(*no_numbers(), 0, 3, -1, 10 ** 30, b"3x5", bytearray(b"3x5"), ["3x5"], ("3x5",), {"3x5"}, {"3x5": 1},
                  list("3x5"), LINE, (LINE, "3x5"))

    def test_all_short_texts(self):
        signs = "0123x- "
        taken = {line_text(line_by_places(values)) for values in
                 ([[worth] * long for worth in range(-33, 334) for long in range(1, 34)])}
        for long in range(0, 6):
            for letters in itertools.product(signs, repeat=long):
                text = "".join(letters)
                if text in taken:
                    self.assertEqual(line_text(read_line(text)), text)
                else:
                    self.refused(NoText, read_line, text)


class NothingIsChangedTest(OfLines):
    def test_equal_things_give_equal_answers(self):
        for line, text in WRITTEN:
            self.same_each_time(line_text, line)
            self.same_each_time(read_line, text)

    def test_lists_that_are_refused_are_as_they_were(self):
        steps = [(0, 2), (1, 1)]
        self.refused(NoLine, line_text, (3, steps))
        texts = ["3x5"]
        self.refused(NoText, read_line, texts)
        self.assertEqual((steps, texts), ([(0, 2), (1, 1)], ["3x5"]))


if __name__ == "__main__":
    unittest.main()
