import itertools
import unittest

from inflate.errors import FloorError
from inflate.looks import lack
from inflate.rules import Rule
from inflate.texts import read_rule, show_rule
from tests.helper import (FULL, SIZES, FloorsTest, full, how_many, lacking_rules, mixed, read, redrawn, some_shape,
                          source)

GOLDEN = FULL["golden in three and two"]
SQUARE = """frame 4
scale 2
shape 0:0 1:0 1:1 0:1
cut
part 0 0 0 0:0
part 0 0 0 1:0
part 0 0 0 1:1
part 0 0 0 0:1"""
# What a text is not, and what is not so written.
NO_TEXTS = (None, True, False, 0, 4, 1.5, b"", SQUARE.encode(), bytearray(SQUARE.encode()), [], [SQUARE],
            SQUARE.split("\n"), (), (SQUARE,), {}, {SQUARE: SQUARE}, {"frame"}, object(), Rule(*read(SQUARE)))
# Writings of 1 that are none, and of numbers that are not to be written so.
WRONG_WHOLES = ("", " ", "-", "--1", "+1", "01", "001", "-01", "-0", "00", "1.0", "1.", ".1", "1e0", "1_0", "0x1", "1-",
                "- 1", "1 ", " 1", "1\t", "\t1", "1\r", "one", "a", "\u0661", "\u00b2", "\uff11", "\u2212" + "1",
                "1001", "-1001", "1010", "2000", "9999", "-9999", "10000", "00001", "100000000000000000000",
                "1" * 200, "0" * 200, "1'", "(1)", "1/1", "nan", "None", "True")


def in_frame(m, *lines):
    return "\n".join((f"frame {m}",) + lines)


def told_of(rule):
    return rule.frame().size(), rule.scale(), rule.shapes(), rule.cuts()


def shown_number(number):
    return "%d,%d" % number if number[1] else "%d" % number[0]


def shown_point(point):
    return "%s:%s" % tuple(shown_number(number) for number in point)


def shown(told):
    """Point 28 word for word."""
    m, scale, shapes, cuts = told
    text = "frame %d\nscale %s" % (m, shown_number(scale))
    for shape in shapes:
        text += "\nshape" + "".join(" " + shown_point(point) for point in shape)
    for cut in cuts:
        text += "\ncut"
        for kind, (turn, flip, place) in cut:
            text += "\npart %d %d %d %s" % (kind, turn, flip, shown_point(place))
    return text


def with_line(text, number, line):
    lines = text.split("\n")
    return "\n".join(lines[:number] + [line] + lines[number + 1:])


class TextsTest(FloorsTest):
    def read_as(self, text, told):
        rule = read_rule(text)
        self.assertIsInstance(rule, Rule)
        self.assertEqual(told_of(rule), told)
        self.assertEqual(show_rule(rule), text)

    def no_text(self, text):
        self.refused("NoText", read_rule, text)

    def refused(self, name, call, *handed):
        """As it is elsewhere, but that the first thing handed in may be looked at, too."""
        with self.assertRaises(FloorError, msg=repr(handed)) as taken:
            call(*handed)
        self.assertEqual(taken.exception.__class__.__name__, name, handed)
        return taken.exception

    def some_number(self, draw, m, most=1000):
        end = draw.choice((1, 9, 10, 99, 100, 999, most))
        return (draw.randint(-end, end), 0 if m in (4, 6) else draw.randint(-end, end))

    def some_rule(self, draw, m):
        """Of any shapes and parts, so mostly one that lacks something."""
        shapes = [some_shape(draw, m, draw.randint(3, 6)) for _ in range(draw.randint(1, 4))]
        cuts = [[(draw.randrange(len(shapes)),
                  (draw.randrange(m), draw.randrange(2), (self.some_number(draw, m), self.some_number(draw, m))))
                 for _ in range(draw.randint(1, 12))] for _ in shapes]
        scale = (draw.randint(2, 1000), 0) if m in (4, 6) else (draw.randint(2, 1000), draw.randint(0, 1000))
        return m, scale, shapes, cuts


class BothWaysTest(TextsTest):
    def test_as_written(self):
        self.read_as(SQUARE, (4, (2, 0), [[((0, 0), (0, 0)), ((1, 0), (0, 0)), ((1, 0), (1, 0)), ((0, 0), (1, 0))]],
                              [[(0, (0, 0, ((0, 0), (0, 0)))), (0, (0, 0, ((1, 0), (0, 0)))),
                                (0, (0, 0, ((1, 0), (1, 0)))), (0, (0, 0, ((0, 0), (1, 0))))]]))
        self.read_as("frame 12\nscale 0,1\nshape 0:0 0,1:0 0,-1:2\ncut\npart 0 11 1 -1000,1000:0,-2",
                     (12, (0, 1), [[((0, 0), (0, 0)), ((0, 1), (0, 0)), ((0, -1), (2, 0))]],
                      [[(0, (11, 1, ((-1000, 1000), (0, -2))))]]))

    def test_each_rule(self):
        for name in FULL:
            self.read_as(FULL[name], full(name))
            draw = source(f"{self.id()} {name}")
            for told in (redrawn(draw, full(name)), mixed(draw, full(name))):
                self.assertEqual(show_rule(Rule(*told)), shown(told))
                self.read_as(shown(told), told)

    def test_any_rules(self):
        seen = set()
        for m in SIZES:
            draw = source(f"{self.id()} {m}")
            for _ in range(20):
                told = self.some_rule(draw, m)
                self.assertEqual(show_rule(Rule(*told)), shown(told))
                self.read_as(shown(told), told)
                seen.add((m, lack(Rule(*told)) is None))
        self.assertEqual({m for m, filled in seen if not filled}, set(SIZES))

    def test_great_numbers(self):
        for m in SIZES:
            least, most = (-1000, 0 if m in (4, 6) else -1000), (1000, 0 if m in (4, 6) else 1000)
            shape = [(least, least), (most, least), (most, most)]
            told = (m, most, [shape], [[(0, (m - 1, 1, (least, most))), (0, (0, 0, (most, least)))]])
            self.assertEqual(show_rule(Rule(*told)), shown(told))
            self.read_as(shown(told), told)

    def test_each_number_of_up_to_three_figures(self):
        for number in list(range(-25, 26)) + [-1000, -999, -100, -99, 99, 100, 101, 110, 999, 1000]:
            self.read_as(with_line(SQUARE, 4, f"part 0 0 0 {number}:0"),
                         (4, (2, 0), full("square in four")[2],
                          [[(0, (0, 0, ((number, 0), (0, 0))))] + full("square in four")[3][0][1:]]))
            if number != 0:
                text = with_line(GOLDEN, 5, f"part 0 0 0 0:0,{number}")
                self.assertEqual(read_rule(text).cuts()[0][0], (0, (0, 0, ((0, 0), (0, number)))))
                self.assertEqual(show_rule(read_rule(text)), text)

    def test_rules_that_lack_something(self):
        for told, due in lacking_rules():
            text = show_rule(Rule(*told))
            self.assertEqual(text, shown(told))
            self.read_as(text, told)
            self.assertEqual(lack(read_rule(text)), due)

    def test_numbers_beyond_are_shown(self):
        # A rule may be made of numbers that are not read.
        told = (8, (2, 0), [[((0, 0), (0, 0)), ((10 ** 50, -10 ** 50 // 2), (0, 0)), ((0, 0), (1001, 0))]],
                [[(0, (0, 0, ((0, -1001), (0, 0))))]])
        text = show_rule(Rule(*told))
        self.assertEqual(text, shown(told))
        self.no_text(text)

    def test_most_of_all(self):
        told = self.some_rule(source(self.id()), 4)
        m, scale, shapes, cuts = told
        most = (m, scale, [shapes[0]] * 4, [[(3, (3, 1, ((k, 0), (-k, 0)))) for k in range(12)]] * 4)
        self.read_as(shown(most), most)

    def test_answers_are_new_each_time(self):
        one, other = read_rule(GOLDEN), read_rule(GOLDEN)
        self.assertIsNot(one, other)
        one.shapes().clear()
        one.cuts()[0].clear()
        self.assertEqual(show_rule(one), GOLDEN)
        self.assertEqual(show_rule(other), GOLDEN)
        self.assertEqual([how_many(told_of(rule), 0, 3) for rule in (one, other)], [21, 21])


class NoTextTest(TextsTest):
    def test_what_is_no_text(self):
        for thing in NO_TEXTS:
            self.no_text(thing)

    def test_nothing(self):
        for text in ("", " ", "\n", "\n\n", "frame", "frame 4", "frame 4\n", "scale 2", "rule", "\t", "frame 4\nscale"):
            self.no_text(text)

    def test_wrong_wholes(self):
        lines = GOLDEN.split("\n")
        for wrong in WRONG_WHOLES:
            for number, line in ((0, f"frame {wrong}"), (1, f"scale {wrong}"), (1, f"scale 1,{wrong}"),
                                 (1, f"scale {wrong},1"), (2, f"shape {wrong}:0 0,1:0 0:0,1"),
                                 (2, f"shape 0:0 0,1:{wrong} 0:0,1"), (2, f"shape 0:0 0,1:0 0:0,{wrong}"),
                                 (2, f"shape 0:0 0,1:0 {wrong},1:0,1"), (5, f"part {wrong} 0 0 0:0"),
                                 (5, f"part 0 {wrong} 0 0:0"), (5, f"part 0 0 {wrong} 0:0"),
                                 (5, f"part 0 0 0 {wrong}:0"), (5, f"part 0 0 0 0:{wrong}"),
                                 (5, f"part 0 0 0 0,{wrong}:0"), (5, f"part 0 0 0 0:{wrong},1"),
                                 (len(lines) - 1, f"part 1 4 0 1,1:{wrong}")):
                self.no_text(with_line(GOLDEN, number, line))

    def test_wrong_numbers(self):
        # A number without w is written without it.
        for wrong in ("1,0", "0,0", "-1,0", "1,-0", "1,2,3", "1,", ",1", ",", "1;2", "1, 2", "1 ,2", "1,1,", "(1,1)",
                      "1+1", "1,+1", "1.1", "1:1", "1,1w", "1,w"):
            self.no_text(with_line(GOLDEN, 1, f"scale {wrong}"))
            self.no_text(with_line(GOLDEN, 2, f"shape {wrong}:0 0,1:0 0:0,1"))
            self.no_text(with_line(GOLDEN, 2, f"shape 0:0 0,1:0 0:{wrong}"))
            self.no_text(with_line(GOLDEN, 5, f"part 0 0 0 {wrong}:0"))
            self.no_text(with_line(GOLDEN, 5, f"part 0 0 0 0:{wrong}"))

    def test_wrong_points(self):
        for wrong in ("0", ":", "0:", ":0", "0:0:0", "0::0", "0,1", "0;0", "0.0", "0 :0", "0: 0", "0:0,", "0:0;",
                      "(0:0)", "0:0:", ":0:0", "0-0"):
            self.no_text(with_line(GOLDEN, 2, f"shape {wrong} 0,1:0 0:0,1"))
            self.no_text(with_line(GOLDEN, 2, f"shape 0:0 0,1:0 {wrong}"))
            self.no_text(with_line(GOLDEN, 5, f"part 0 0 0 {wrong}"))

    def test_w_in_frames_that_have_none(self):
        for m, name in ((4, "square in four"), (6, "triangle in four")):
            text = FULL[name]
            last = len(text.split("\n")) - 1
            for number in ("0,1", "1,0", "1,1", "0,0", "2,-1", "-1,3"):
                for place, line in ((1, f"scale {number}"), (2, f"shape {number}:0 1:0 0:1"),
                                    (2, f"shape 0:0 1:{number} 0:1"), (2, f"shape 0:0 1:0 0:{number}"),
                                    (4, f"part 0 0 0 {number}:0"), (last, f"part 0 0 0 0:{number}")):
                    self.assertEqual(read_rule(text).frame().size(), m)
                    self.no_text(with_line(text, place, line))
        # In the others the same numbers are read.
        for m in (8, 10, 12):
            text = in_frame(m, "scale 1,1", "shape 0:0 1:0 0:1", "cut", "part 0 0 0 2,-1:-1,3")
            self.assertEqual(show_rule(read_rule(text)), text)
            self.no_text(text.replace(f"frame {m}", "frame 4"))
            self.no_text(text.replace(f"frame {m}", "frame 6"))

    def test_each_line_left_out(self):
        for name in ("square in four", "golden in three and two", "hexagon in six"):
            lines = FULL[name].split("\n")
            firsts = [number for number, line in enumerate(lines) if line == "cut"]
            for number, line in enumerate(lines):
                left = "\n".join(lines[:number] + lines[number + 1:])
                if number < 2 or number == firsts[0]:
                    self.no_text(left)
                elif line.startswith("shape"):
                    # One shape less is written so: then there is none, or one without a cut.
                    self.refused("NoShape" if name == "square in four" else "NoCut", read_rule, left)
                elif line == "cut":
                    self.refused("NoCut", read_rule, left)
                else:
                    self.assertIsNotNone(lack(read_rule(left)))

    def test_each_line_doubled(self):
        for name in ("square in four", "golden in three and two", "hexagon in six"):
            lines = FULL[name].split("\n")
            for number, line in enumerate(lines):
                double = "\n".join(lines[:number] + [line] + lines[number:])
                if number < 2:
                    self.no_text(double)
                elif line.startswith("part"):
                    self.assertEqual(lack(read_rule(double))[0], "overlap")
                else:
                    self.refused("NoCut", read_rule, double)

    def test_lines_exchanged(self):
        for name in ("square in four", "golden in three and two", "hexagon in six"):
            lines = FULL[name].split("\n")
            ranks = {"frame": 0, "scale": 1, "shape": 2, "cut": 3, "part": 3}
            for one, other in itertools.combinations(range(len(lines)), 2):
                changed = list(lines)
                changed[one], changed[other] = changed[other], changed[one]
                words = [line.split(" ")[0] for line in changed]
                order = [ranks[word] for word in words]
                if order != sorted(order) or words[words.index("part") - 1] != "cut":
                    self.no_text("\n".join(changed))
                else:
                    self.assertIsInstance(self.read_or_refused("\n".join(changed)), (Rule, FloorError))

    def read_or_refused(self, text):
        try:
            return read_rule(text)
        except FloorError as taken:
            self.assertIn(taken.__class__.__name__, ("NoShape", "NoCut"))
            return taken

    def test_each_word_left_out_doubled_or_exchanged(self):
        lines = GOLDEN.split("\n")
        for number, line in enumerate(lines):
            words = line.split(" ")
            for place, word in enumerate(words):
                left = " ".join(words[:place] + words[place + 1:])
                double = " ".join(words[:place] + [word] + words[place:])
                if words[0] == "shape" and place > 0:
                    self.refused("NoShape", read_rule, with_line(GOLDEN, number, left))
                    self.refused("NoShape", read_rule, with_line(GOLDEN, number, double))
                else:
                    self.no_text(with_line(GOLDEN, number, left))
                    self.no_text(with_line(GOLDEN, number, double))
                for other in ("frame", "scale", "shape", "cut", "part", "Frame", "SHAPE", "parts", "cuts", "x"):
                    if other != word:
                        self.no_text(with_line(GOLDEN, number, " ".join(words[:place] + [other] + words[place + 1:])))

    def test_blanks(self):
        lines = GOLDEN.split("\n")
        for number, line in enumerate(lines):
            for wrong in (" " + line, line + " ", line.replace(" ", "  ", 1), line.replace(" ", "\t", 1), line + "\t",
                          line.replace(" ", "", 1), line + "\r", line.replace(" ", "\u00a0", 1), line + "  "):
                if wrong != line:
                    self.no_text(with_line(GOLDEN, number, wrong))

    def test_line_feeds(self):
        for text in (GOLDEN + "\n", "\n" + GOLDEN, GOLDEN + "\n\n", GOLDEN + " ", " " + GOLDEN, GOLDEN + "\n ",
                     GOLDEN.replace("\n", "\n\n"), GOLDEN.replace("\n", "\r\n"), GOLDEN.replace("\n", "\r"),
                     GOLDEN.replace("\n", " "), GOLDEN.replace("\n", "\x0b"), GOLDEN.replace("\n", "\u2028"),
                     GOLDEN.replace("\n", "\x0c"), GOLDEN.replace("\n", ";"), GOLDEN + "\x00"):
            self.no_text(text)
        lines = GOLDEN.split("\n")
        for number in range(len(lines) + 1):
            self.no_text("\n".join(lines[:number] + [""] + lines[number:]))
            self.no_text("\n".join(lines[:number] + ["# "] + lines[number:]))
            for end in ("\x0b", "\x0c", "\r", "\x1c", "\x85", "\u2028"):
                self.no_text(with_line(GOLDEN, number % len(lines), lines[number % len(lines)] + end))

    def test_each_sign_left_out_doubled_or_exchanged(self):
        # What is read then is another rule's text, or refused as a rule is.
        named = set()
        for text in (GOLDEN, SQUARE, FULL["right triangle in three"]):
            for place in range(len(text)):
                for sign in ("", text[place] * 2, "x", "-", " ", "\n", ",", ":", "9", "0"):
                    changed = text[:place] + sign + text[place + 1:]
                    try:
                        rule = read_rule(changed)
                    except FloorError as taken:
                        named.add(taken.__class__.__name__)
                    else:
                        self.assertEqual(show_rule(rule), changed)
        self.assertEqual(named, {"NoText", "NoFrame", "NoScale", "NoShape", "NoCut"})

    def test_letters_of_another_size(self):
        for word in ("frame", "scale", "shape", "cut", "part"):
            self.no_text(GOLDEN.replace(word, word.upper()))
            self.no_text(GOLDEN.replace(word, word.capitalize()))
            self.no_text(GOLDEN.replace(word, word[:-1], 1))
            self.no_text(GOLDEN.replace(word, word + "s", 1))

    def test_shapes_behind_cuts(self):
        lines = GOLDEN.split("\n")
        self.no_text("\n".join(lines[:3] + lines[4:] + lines[3:4]))
        self.no_text("\n".join(lines[:3] + lines[4:8] + lines[3:4] + lines[8:]))
        self.no_text("\n".join(lines + ["scale 2"]))
        self.no_text("\n".join(lines + ["frame 4"]))

    def test_a_cut_with_words(self):
        for line in ("cut 0", "cut 0 0 0 0:0", "cut part 0 0 0 0:0", "cut cut"):
            self.no_text(with_line(GOLDEN, 4, line))


class RefusedAsRulesAreTest(TextsTest):
    def test_no_frame(self):
        for m in (-1000, -4, -1, 0, 1, 2, 3, 5, 7, 9, 11, 13, 24, 40, 100, 999, 1000):
            self.refused("NoFrame", read_rule, GOLDEN.replace("frame 10", f"frame {m}"))
            self.refused("NoFrame", read_rule, SQUARE.replace("frame 4", f"frame {m}"))

    def test_no_scale(self):
        for scale in ("1", "0", "-1", "-2", "-1000", "0,-1", "2,-1", "-1,1", "1,-1", "1000,-1000"):
            self.refused("NoScale", read_rule, with_line(GOLDEN, 1, f"scale {scale}"))
        for scale in ("1", "0", "-1", "-1000"):
            self.refused("NoScale", read_rule, with_line(SQUARE, 1, f"scale {scale}"))

    def test_no_shape(self):
        for shape in ("shape", "shape 0:0", "shape 0:0 1:0", "shape 0:0 0:1 1:0", "shape 0:0 1:0 2:0",
                      "shape 0:0 1:0 1:1 0:1 0:0", "shape 0:0 3:0 1:1 0:3", "shape 0:0 0:0 0:0",
                      "shape 0:0 2:0 3:1 3:2 2:3 1:3 0:2"):
            self.refused("NoShape", read_rule, with_line(SQUARE, 2, shape))
        lines = SQUARE.split("\n")
        self.refused("NoShape", read_rule, "\n".join(lines[:2] + lines[2:3] * 5 + lines[3:]))
        self.refused("NoShape", read_rule, "\n".join(lines[:2] + lines[3:]))
        self.refused("NoShape", read_rule, "\n".join(lines[:2]))
        self.refused("NoShape", read_rule, "\n".join(lines[:2] + ["shape", "cut"]))

    def test_no_cut(self):
        lines = SQUARE.split("\n")
        for text in (lines[:3], lines[:4], lines + ["cut"], lines[:3] + ["cut", "cut"], lines + lines[3:],
                     lines[:3] + lines[2:], lines[:4] + lines[4:5] * 13):
            self.refused("NoCut", read_rule, "\n".join(text))
        for part in ("part 1 0 0 0:0", "part -1 0 0 0:0", "part 4 0 0 0:0", "part 0 4 0 0:0", "part 0 -1 0 0:0",
                     "part 0 0 2 0:0", "part 0 0 -1 0:0", "part 1000 0 0 0:0", "part 0 1000 0 0:0",
                     "part 0 0 -1000 0:0"):
            self.refused("NoCut", read_rule, with_line(SQUARE, 5, part))
        self.assertEqual(len(read_rule("\n".join(lines[:4] + lines[4:5] * 12)).cuts()[0]), 12)

    def test_the_first_that_is_due(self):
        # Each one wrong by itself, at another line, in the order in which they are due.
        wrongs = [("NoText", 8, "part"), ("NoText", 7, "part 0 0 0 -0:0"), ("NoFrame", 0, "frame 5"),
                  ("NoScale", 1, "scale 1"), ("NoShape", 2, "shape"), ("NoShape", 2, "shape 1:0 0:0 0:1"),
                  ("NoCut", 4, "part 9 0 0 0:0"), ("NoCut", 5, "cut")]
        text = with_line(SQUARE, 7, "part 0 0 0 0:1\npart 0 0 0 0:1")
        self.assertEqual(show_rule(read_rule(text)), text)
        for name, number, line in wrongs:
            self.assertEqual(self.refused_by(with_line(text, number, line)), name)
        for one, other in itertools.combinations(wrongs, 2):
            if one[1] != other[1]:
                both = with_line(with_line(text, *one[1:]), *other[1:])
                self.assertEqual(self.refused_by(both), one[0])

    def test_no_text_where_numbers_have_no_w(self):
        # Ahead of all that follows; but in a frame that is none no number is refused for its w.
        for name, number, line in (("NoScale", 1, "scale 1"), ("NoShape", 2, "shape"), ("NoCut", 5, "cut")):
            text = with_line(SQUARE, number, line)
            self.assertEqual(self.refused_by(text), name)
            self.assertEqual(self.refused_by(with_line(text, 7, "part 0 0 0 0:1,1")), "NoText")
        self.assertEqual(self.refused_by(with_line(with_line(SQUARE, 0, "frame 5"), 7, "part 0 0 0 0:1,1")), "NoFrame")
        self.assertEqual(self.refused_by(with_line(with_line(SQUARE, 0, "frame 5"), 7, "part 0 0 0 0:1,0")), "NoText")

    def refused_by(self, text):
        with self.assertRaises(FloorError) as taken:
            read_rule(text)
        return taken.exception.__class__.__name__

    def test_refusals_change_nothing(self):
        for wrong in (GOLDEN + "\n", None, SQUARE.replace("frame 4", "frame 5"), SQUARE.replace("scale 2", "scale 1")):
            self.refused_by(wrong)
            self.assertEqual(show_rule(read_rule(GOLDEN)), GOLDEN)
            self.assertEqual(show_rule(read_rule(SQUARE)), SQUARE)


if __name__ == "__main__":
    unittest.main()
