import itertools
import unittest

from inflate.counts import counts
from inflate.desk import Desk
from inflate.errors import FloorError
from inflate.floors import floor_of, piece_at
from inflate.looks import lack
from inflate.patches import sought
from inflate.rules import Rule
from inflate.shares import direction
from inflate.sides import neighbours, relations
from inflate.stars import never
from inflate.texts import show_rule
from tests.helper import (FULL, MOST, SIZES, FloorsTest, full, how_many, lacking_rules, mixed, redrawn, some_address,
                          source)

SQUARE = FULL["square in four"]
GOLDEN = FULL["golden in three and two"]
ALONE = ("look", "show", "relations", "shares", "never")
TOO_MANY_RELATIONS = ("squares with 121 relations", "golden strips")
NO_TEXTS = (None, True, 0, 7, 1.5, b"look", bytearray(b"look"), [], ["look"], ("look",), {}, {"look": 1}, {"look"},
            object())
# What is no KIND, no N and no number of an ADDRESS.
WRONG_FIGURES = ("", "-1", "+1", "01", "00", "000", "001", "010", "-0", "1000", "9999", "0000", "10" * 20, "1.", ".1",
                 "1,0", "1:0", "a", "x1", "1x", "1e1", "0x1", "1_0", "\u0661", "\u00b2", "\uff11", "1\t", "\t1", "1\n",
                 "\n1", "1\r", "1\u00a0", "one", "None", "()", "--")


def shown_number(number):
    return "%d,%d" % number if number[1] else "%d" % number[0]


def shown_piece(piece):
    kind, (turn, flip, (x, y)) = piece
    return "%d %d %d %s:%s" % (kind, turn, flip, shown_number(x), shown_number(y))


def shown_address(address):
    return ".".join(map(str, address)) or "-"


class DeskTest(FloorsTest):
    def due_refusal(self, name, desk, row):
        with self.assertRaises(FloorError, msg=repr(row)) as taken:
            desk.say(row)
        self.assertEqual(taken.exception.__class__.__name__, name, row)
        return taken.exception

    def no_row(self, desk, row):
        self.due_refusal("NoRow", desk, row)

    def each_desk(self, anew=1):
        for told, draw in self.each_rule(anew):
            yield told, draw, Rule(*told), Desk(show_rule(Rule(*told)))

    def says(self, desk, row, due):
        found = desk.say(row)
        self.assertIsInstance(found, str)
        self.assertEqual(found, due, row)


class RowsTest(DeskTest):
    def test_as_written(self):
        desk = Desk(SQUARE)
        for row, due in (("look", "full"), ("show", SQUARE), ("piece 0 -", "0 0 0 0:0"), ("piece 0 1", "0 0 0 1:0"),
                         ("piece 0 2.3", "0 0 0 2:3"), ("grow 0 0", "1"), ("grow 0 3", "64"), ("near 0 -", "none"),
                         ("near 0 0", "1 3"), ("near 0 0.2", "0.1 0.3 1.3 3.1"), ("relations", "4"), ("shares", "1/1"),
                         ("find 0 0 -", "1"), ("find 0 1 0", "4"), ("find 0 1 0 1", "2"), ("find 0 1 0 2 0", "1"),
                         ("find 0 2 0.0 1.1", "4"), ("find 0 1 0 1 2 3 3 3", "1"), ("never", "open"),
                         ("grow 0 200", str(4 ** 200))):
            self.says(desk, row, due)

    def test_an_irrational_one_as_written(self):
        desk = Desk(GOLDEN)
        for row, due in (("look", "full"), ("show", GOLDEN), ("piece 1 1", "1 4 0 1,1:0"),
                         ("piece 0 1.0", "0 3 0 1,2:0"), ("piece 1 1.1", "1 8 0 0:1,1"), ("grow 0 2", "5 3"), ("grow 1 1", "1 1"), ("grow 1 0", "0 1"),
                         ("near 0 2", "0 1"), ("relations", "20"), ("shares", "-1,1/1 2,-1/1"), ("never", "open"),
                         ("find 0 2 0.0 0.2", "3"), ("find 1 1 0 1", "1")):
            self.says(desk, row, due)
        self.says(Desk(FULL["half hexagon in four"]), "never", "never")
        self.says(Desk(FULL["octagonal"]), "shares", "-1,1/1 2,-1/1")

    def test_shares_with_a_bottom(self):
        self.says(Desk(FULL["half squares in turn"]), "shares",
                  " ".join("%s/%d" % (shown_number(number), bottom)
                           for number, bottom in direction(Rule(*full("half squares in turn")))))
        found = [Desk(FULL[name]).say("shares") for name in ("triangles of two sizes", "rectangles by one and root 3")]
        self.assertTrue(any(not share.endswith("/1") for text in found for share in text.split(" ")))

    def test_look_and_show_and_words_alone(self):
        for told, draw, rule, desk in self.each_desk(anew=0):
            self.says(desk, "look", "full")
            self.says(desk, "show", show_rule(rule))
            for row, call in (("relations", lambda: str(len(relations(rule)))), ("never", lambda: never(rule)[0]),
                              ("shares", lambda: " ".join(f"{shown_number(number)}/{bottom}"
                                                          for number, bottom in direction(rule)))):
                try:
                    due = call()
                except FloorError as taken:
                    self.due_refusal(taken.__class__.__name__, desk, row)
                else:
                    self.says(desk, row, due)

    def test_pieces_and_neighbours(self):
        seen = set()
        for told, draw, rule, desk in self.each_desk():
            for kind, n in itertools.product(range(len(told[2])), (0, 1, 2, 3, 7, 12)):
                address = some_address(draw, told, kind, n)
                word = shown_address(address)
                self.says(desk, f"piece {kind} {word}", shown_piece(piece_at(rule, kind, address)))
                if n < 4 or kind == 0:
                    beside = [shown_address(other) for other in neighbours(rule, kind, address)]
                    self.says(desk, f"near {kind} {word}", " ".join(beside) or "none")
                    seen.add((told[0], bool(beside)))
        self.assertEqual(seen, set(itertools.product(SIZES, (True, False))))

    def test_grow(self):
        for told, draw, rule, desk in self.each_desk(anew=0):
            for kind, n in itertools.product(range(len(told[2])), (0, 1, 2, 9, 10, 99, 100, 199, 200)):
                self.says(desk, f"grow {kind} {n}", " ".join(map(str, counts(rule, kind, n))))

    def test_find(self):
        seen = set()
        for told, draw, rule, desk in self.each_desk(anew=0):
            for way in (told, mixed(draw, told)):
                rule, desk = Rule(*way), Desk(show_rule(Rule(*way)))
                for n in range(4):
                    kind = draw.randrange(len(way[2]))
                    if how_many(way, kind, n) <= 100:
                        floor = floor_of(rule, kind, n)
                        count = draw.randint(1, 6)
                        rows = [draw.choice(floor) for _ in range(count)]
                        due = len(sought(rule, kind, n, [piece for address, piece in rows]))
                        self.assertGreater(due, 0)
                        words = " ".join(shown_address(address) for address, piece in rows)
                        self.says(desk, f"find {kind} {n} {words}", str(due))
                        seen.add((way[0], count))
        self.assertEqual({m for m, count in seen}, set(SIZES))
        self.assertEqual({count for m, count in seen}, set(range(1, 7)))

    def test_find_each_piece(self):
        for name in ("golden in three and two", "octagonal", "hexagon in six by root 3", "domino in four"):
            rule, desk = Rule(*full(name)), Desk(FULL[name])
            floor = floor_of(rule, 0, 2)
            for address, piece in floor:
                due = sum(other[0] == piece[0] for beside, other in floor)
                self.says(desk, f"find 0 2 {shown_address(address)}", str(due))

    def test_addresses_of_two_figures(self):
        told = full("squares 300")
        rule, desk = Rule(*told), Desk(FULL["squares 300"])
        self.says(desk, "piece 2 10", shown_piece(piece_at(rule, 2, (10,))))
        self.says(desk, "near 2 10.3.0", " ".join(map(shown_address, neighbours(rule, 2, (10, 3, 0)))))
        self.says(desk, "find 2 1 11 10", str(len(sought(rule, 2, 1, [told[3][2][11], told[3][2][10]]))))

    def test_the_longest_rows(self):
        desk = Desk(FULL["slow half squares"])
        self.says(desk, "find 0 11 " + " ".join(["0.0.0" + ".1" * 8] * 6), "256")
        self.says(desk, "piece 0 0.0.0" + ".1" * 9,
                  shown_piece(piece_at(Rule(*full("slow half squares")), 0, (0, 0, 0) + (1,) * 9)))


class NoRowTest(DeskTest):
    def setUp(self):
        self.desks = [Desk(SQUARE), Desk(GOLDEN)]

    def none(self, *rows):
        for row in rows:
            for desk in self.desks:
                self.no_row(desk, row)

    def test_what_is_no_text(self):
        self.none(*NO_TEXTS)

    def test_what_is_no_row(self):
        self.none("", " ", "  ", "\n", "Look", "LOOK", "looks", "loo", "help", "full", "open", "none", "-", "0",
                  "frame 4", "find", "piece", "near", "grow", "star 0 0", "stars", "lack", "counts 0 1", "sought 0 1 0", "table",
                  "look\n", "look\t", "\tlook", "look\r", "\u00a0look", "look;show", "look,", "kind 0 0", "floor 0 1")

    def test_blanks(self):
        rows = ALONE + ("piece 0 0.0", "grow 0 5", "near 0 0", "find 0 1 0 1", "find 0 0 -", "piece 0 -")
        for row in rows:
            for desk in self.desks:
                self.assertIsInstance(desk.say(row), str)
            self.none(" " + row, row + " ", row + "  ", "  " + row, row + "\n", "\n" + row, row + "\t", row + " \n")
            for place in [place for place, sign in enumerate(row) if sign == " "]:
                self.none(*[row[:place] + blank + row[place + 1:]
                            for blank in ("  ", "   ", "\t", "\n", "\u00a0", ",", "_")])
            words = row.split(" ")
            self.none(*["".join(words)] * (len(words) > 1), " ".join(words[:2]) + "".join(words[2:]) + " ")

    def test_words_too_few_or_too_many(self):
        for word in ALONE:
            self.none(f"{word} 0", f"{word} 0 0", f"{word} -", f"{word} {word}", f"{word} 0 0 0", f"{word} 0 1 0 0")
        self.none("piece 0", "piece 0 0 0", "piece 0 0 0 0", "piece 0 - -", "piece -", "grow 0", "grow 0 1 1",
                  "grow 1 1 0 0", "near 0", "near 0 0 0", "near 0 - 0 0", "near -", "find 0", "find 0 0", "find 0 1", "find 0 12")

    def test_seven_addresses_and_none(self):
        self.none("find 0 1 0 0 0 0 0 0 0", "find 0 0 - - - - - - -", "find 0 1", "find 0 1 " + " ".join(["0"] * 30))
        for desk in self.desks:
            self.assertEqual(desk.say("find 0 1 0 0 0 0 0 0"), desk.say("find 0 1 0"))

    def test_wrong_figures(self):
        for wrong in WRONG_FIGURES:
            self.none(f"piece {wrong} 0", f"grow {wrong} 1", f"near {wrong} 0", f"find {wrong} 1 0",
                      f"grow 0 {wrong}", f"find 0 {wrong} 0")
            self.none(f"piece 0 {wrong}", f"near 0 {wrong}", f"find 0 1 {wrong}", f"find 0 1 0 {wrong}",
                      f"piece 0 0.{wrong}", f"near 0 {wrong}.0", f"find 0 2 0.{wrong}", f"find 0 3 0.{wrong}.0")

    def test_wrong_addresses(self):
        for wrong in (".", "..", "0.", ".0", "0..0", "-.0", "0.-", "--", "0,0", "0:0", "(0)", "()", "0.0.", ".0.0",
                      "0-0", "0/0", "none", "- ", "-0", "0.00", "00.0", "0.1000"):
            self.none(f"piece 0 {wrong}", f"near 0 {wrong}", f"find 0 1 {wrong}", f"find 0 1 0 {wrong}",
                      f"find 0 2 {wrong} 0.0")

    def test_numbers_of_growings(self):
        for n in (201, 202, 300, 999):
            self.none(f"grow 0 {n}", f"grow 9 {n}")
        for n in (13, 14, 20, 100, 999):
            self.none(f"find 0 {n} " + ".".join(["0"] * n), f"find 0 {n} 0", f"find 9 {n} -")
        for desk in self.desks:
            self.assertIsInstance(desk.say("grow 0 200"), str)
            self.due_refusal("TooMany", desk, "find 0 12 " + ".".join(["0"] * 12))

    def test_kinds_and_numbers_of_three_figures_are_rows(self):
        for desk in self.desks:
            for number in (9, 10, 99, 100, 999):
                for row in (f"piece {number} 0", f"near {number} 0", f"grow {number} 0", f"find {number} 1 0"):
                    self.due_refusal("NoKind", desk, row)
                for row in (f"piece 0 {number}", f"near 0 {number}", f"find 0 1 {number}", f"find 0 1 0 {number}"):
                    self.due_refusal("NoAddress", desk, row)

    def test_long_addresses_are_rows(self):
        for desk in self.desks:
            for n in (13, 14, 60):
                for row in ("piece 0 ", "near 0 ", "find 0 12 ", "find 0 0 "):
                    self.due_refusal("NoAddress", desk, row + ".".join(["0"] * n))


class RefusedTest(DeskTest):
    def test_no_kind(self):
        for told, draw, rule, desk in self.each_desk(anew=0):
            for kind in (len(told[2]), len(told[2]) + 1, 999):
                for row in (f"piece {kind} 0", f"piece {kind} -", f"near {kind} -", f"grow {kind} 0",
                            f"grow {kind} 200", f"find {kind} 0 -", f"find {kind} 1 0", f"find {kind} 12 -", f"find {kind} 1 999",
                            f"piece {kind} 999", f"near {kind} " + ".".join(["0"] * 13)):
                    self.due_refusal("NoKind", desk, row)

    def test_no_address(self):
        for told, draw, rule, desk in self.each_desk(anew=0):
            parts = len(told[3][0])
            for row in (f"piece 0 {parts}", f"near 0 {parts}", f"find 0 1 {parts}", f"find 0 1 0 {parts}",
                        f"find 0 1 {parts} 0", "piece 0 0.999", "near 0 0.999", "find 0 2 0.999"):
                self.due_refusal("NoAddress", desk, row)

    def test_addresses_of_another_length(self):
        for told, draw, rule, desk in self.each_desk(anew=0):
            for row in ("find 0 0 0", "find 0 1 -", "find 0 1 0.0", "find 0 2 0", "find 0 2 0.0 0", "find 0 2 0 0.0",
                        "find 0 1 0 0 0 0 0 -", "find 0 12 0", "find 0 3 0.0.0.0", "find 0 0 - 0"):
                self.due_refusal("NoAddress", desk, row)

    def test_no_address_goes_ahead_of_too_many(self):
        for told, draw, rule, desk in self.each_desk(anew=0):
            kind = len(told[2]) - 1
            twelve = ".".join(map(str, some_address(draw, told, kind, 12)))
            self.due_refusal("TooMany", desk, f"find {kind} 12 {twelve}")
            self.due_refusal("TooMany", desk, f"find {kind} 12 {twelve} {twelve}")
            for wrong in (twelve + ".0", twelve[:twelve.rindex(".")], "-", "999", twelve[:twelve.rindex(".")] + ".999"):
                self.due_refusal("NoAddress", desk, f"find {kind} 12 {twelve} {wrong}")
                self.due_refusal("NoAddress", desk, f"find {kind} 12 {wrong} {twelve}")
                self.due_refusal("NoKind", desk, f"find {kind + 1} 12 {wrong} {twelve}")

    def test_too_many(self):
        for name in TOO_MANY_RELATIONS:
            desk = Desk(FULL[name])
            self.due_refusal("TooMany", desk, "relations")
            self.due_refusal("TooMany", desk, "never")
            self.says(desk, "near 0 -", "none")
        desk = Desk(FULL["squares with 120 relations"])
        self.says(desk, "relations", "120")
        self.due_refusal("TooMany", desk, "never")

    def test_find_in_floors_of_just_300_pieces(self):
        for name, kind, n in (("squares 300", 2, 3), ("squares 300 thrice", 0, 5)):
            desk = Desk(FULL[name])
            zeros = [".".join(["0"] * count) for count in (n, n + 1)]
            self.assertGreater(int(desk.say(f"find {kind} {n} {zeros[0]}")), 0)
            self.due_refusal("TooMany", desk, f"find {kind} {n + 1} {zeros[1]}")
        self.due_refusal("TooMany", Desk(FULL["squares 301"]), "find 2 3 0.0.0")
        for told, draw, rule, desk in self.each_desk(anew=0):
            for n in range(13):
                address = shown_address(some_address(draw, told, 0, n))
                if how_many(told, 0, n) > MOST:
                    self.due_refusal("TooMany", desk, f"find 0 {n} {address}")

    def test_no_shares(self):
        for name in ("squares one way", "hexagon in six"):
            self.due_refusal("NoShares", Desk(FULL[name]), "shares")

    def test_rules_that_lack_something(self):
        for told, due in lacking_rules():
            text = show_rule(Rule(*told))
            desk = Desk(text)
            words = [shown_number(thing) if isinstance(thing, tuple) else str(thing) for thing in due]
            self.says(desk, "look", " ".join(words))
            self.says(desk, "show", text)
            for row in ("piece 0 -", "piece 0 0", "piece 9 0", "piece 0 999", "grow 0 0", "grow 9 0", "near 0 -",
                        "near 0 999", "near 9 0", "relations", "shares", "never", "find 0 0 -", "find 9 0 -", "find 0 1 -",
                        "find 0 1 999", "find 0 12 " + ".".join(["0"] * 12), "piece 0 " + ".".join(["0"] * 13)):
                self.assertEqual(self.due_refusal("NoFill", desk, row).lack, due)
            for row in ("piece 0", "grow 0 201", "find 0 13 0", "find 0 0", "find 0 0 - - - - - - -", "never 0", None,
                        "", "piece 00 0", "near 0 0.", "relations ", "look ", " show", "grow 9 201"):
                self.no_row(desk, row)
            self.says(desk, "look", " ".join(words))

    def test_looks_as_written(self):
        self.says(Desk(GOLDEN.replace("\npart 1 4 0 1,1:0\ncut", "\ncut")), "look", "gap 0 0,1")
        self.says(Desk(SQUARE + "\npart 0 0 0 1:1"), "look", "overlap 0 2 4")
        self.says(Desk(SQUARE.replace("part 0 0 0 1:1", "part 0 0 0 1:2")), "look", "outside 0 2")
        self.says(Desk(SQUARE.replace("\npart 0 0 0 0:1", "")), "look", "gap 0 2")

    def test_no_row_goes_ahead_of_all(self):
        desk = Desk(SQUARE)
        for row in ("piece 9 0.", "near 9 999.", "grow 9 201", "find 9 13 0", "find 9 0 0 0 0 0 0 0 0", "find 9 1 0 00",
                    "find 0 12 0 x", "find 9 1"):
            self.no_row(desk, row)
        for name in TOO_MANY_RELATIONS:
            for row in ("relations ", "never 0", " never"):
                self.no_row(Desk(FULL[name]), row)

    def test_refusals_change_nothing(self):
        for told, draw, rule, desk in self.each_desk(anew=0):
            rows = ("look", "show", "piece 0 0", "near 0 0", "grow 0 9", "find 0 1 0")
            due = [Desk(show_rule(rule)).say(row) for row in rows]
            for wrong in ("piece 999 0", "piece 0 999", "near 0 0.999", "look ", None, "find 0 1 -", "grow 0 201",
                          "find 0 12 " + ".".join(["0"] * 12), "find 999 1 0", "near 999 -"):
                with self.assertRaises(FloorError):
                    desk.say(wrong)
                row = draw.choice(rows)
                self.says(desk, row, due[rows.index(row)])
            self.assertEqual([desk.say(row) for row in rows], due)
            self.assertEqual([desk.say(row) for row in reversed(rows)], due[::-1])


class MakingTest(DeskTest):
    def refused_by(self, text):
        with self.assertRaises(FloorError) as taken:
            Desk(text)
        return taken.exception.__class__.__name__

    def test_refused_as_reading_is(self):
        for name, text in (("NoText", SQUARE + "\n"), ("NoText", ""), ("NoText", SQUARE.replace("0:1", "0:01")),
                           ("NoFrame", SQUARE.replace("frame 4", "frame 5")),
                           ("NoScale", SQUARE.replace("scale 2", "scale 1")),
                           ("NoShape", SQUARE.replace("shape 0:0 1:0", "shape 1:0 0:0")),
                           ("NoCut", SQUARE + "\ncut"), ("NoCut", SQUARE.replace("part 0 0 0 1:1", "part 1 0 0 1:1"))):
            self.assertEqual(self.refused_by(text), name)
        for thing in NO_TEXTS:
            self.assertEqual(self.refused_by(thing), "NoText")
        self.assertEqual(self.refused_by(Rule(*full("square in four"))), "NoText")

    def test_made_of_rules_that_lack_something(self):
        for told, due in lacking_rules():
            self.assertEqual(Desk(show_rule(Rule(*told))).say("look").split(" ")[0], due[0])

    def test_desks_side_by_side(self):
        rows = ("show", "look", "near 0 0.0", "relations", "grow 0 7", "piece 0 1.1", "never", "find 0 1 0 1")
        names = ("square in four", "half square in two", "golden in three and two", "octagonal")
        alone = {name: [Desk(FULL[name]).say(row) for row in rows] for name in names}
        desks = {name: Desk(FULL[name]) for name in names}
        for number, row in enumerate(rows):
            for name in names + names[::-1]:
                self.assertEqual(desks[name].say(row), alone[name][number])

    def test_redrawn(self):
        # Where the shapes lie, and in which order the parts come, does not change how many there are.
        for name in FULL:
            desks = [Desk(show_rule(Rule(*told))) for told in (full(name), redrawn(source(name), full(name)))]
            for row in ("look", "grow 0 11", "shares", "relations", "never"):
                answers = []
                for desk in desks:
                    try:
                        answers.append(desk.say(row))
                    except FloorError as taken:
                        answers.append(taken.__class__)
                self.assertEqual(answers[0], answers[1], (name, row))


if __name__ == "__main__":
    unittest.main()
