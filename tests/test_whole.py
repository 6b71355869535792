"""What the document promises over the whole program."""

import copy
import importlib
import inspect
import itertools
import os
import subprocess
import sys
import unittest
from pathlib import Path

from inflate.counts import counts, table
from inflate.desk import Desk
from inflate.errors import FloorError
from inflate.floors import floor_of, holders, piece_at
from inflate.frames import Frame, minus, plus
from inflate.looks import corners, greater, lack
from inflate.patches import same_by, sought
from inflate.points import added, back, cross, joined, mirrored, moved, scaled, turned
from inflate.rules import Rule
from inflate.shapes import are_apart, is_shape, side_between, twice, where
from inflate.shares import direction
from inflate.sides import led, neighbours, relation, relations, side_on_side
from inflate.stars import found_stars, never, star, stars
from inflate.texts import read_rule, show_rule
from tests.helper import (FULL, NEAR, SIZES, FloorsTest, decimal_value, full, how_many, in_plane, lacking_rules, mixed,
                          plane_area, plane_common, plane_side_between, plane_where, read, reordered, some_address,
                          some_small, source)

ORIGIN = ((0, 0), (0, 0))
STAY = (0, 0, ORIGIN)
TOO_MANY_RELATIONS = ("squares with 121 relations", "golden strips")
TOO_MANY_STARS = TOO_MANY_RELATIONS + ("squares with 120 relations",)
# A quick one of each frame, with two kinds where there is such one.
SOME = ("offset squares", "hexagon in six", "octagonal", "golden in three and two", "hexagon in six by root 3")

INTERFACE = {
    "frames": {"plus": "one other", "minus": "one other"},
    "points": {"turned": "frame point r", "mirrored": "frame point", "added": "one other",
               "scaled": "frame point number", "moved": "frame move point", "joined": "frame first second", "back": "frame move",
               "cross": "frame one other"},
    "shapes": {"is_shape": "frame points", "twice": "frame shape", "where": "frame shape point",
               "are_apart": "frame one other", "side_between": "frame one other"},
    "looks": {"corners": "rule piece", "greater": "rule kind", "lack": "rule"},
    "floors": {"piece_at": "rule kind address", "floor_of": "rule kind n", "holders": "rule kind n point"},
    "sides": {"neighbours": "rule kind address", "relation": "rule one other", "led": "rule relation i j",
              "relations": "rule", "side_on_side": "rule"},
    "counts": {"table": "rule", "counts": "rule kind n"},
    "shares": {"direction": "rule"},
    "patches": {"same_by": "rule one other", "sought": "rule kind n patch"},
    "stars": {"star": "rule kind address", "found_stars": "rule", "stars": "rule", "never": "rule"},
    "texts": {"read_rule": "text", "show_rule": "rule"},
}
CLASSES = {
    "frames": {"Frame": ("m", {"size": "", "number": "a b", "times": "one other", "power": "one n", "sign": "one",
                               "less": "one other"})},
    "rules": {"Rule": ("m scale shapes cuts", {"frame": "", "scale": "", "shapes": "", "cuts": ""})},
    "desk": {"Desk": ("text", {"say": "row"})},
}


def questions(told, draw):
    """Rows (function, what is handed in behind the rule): each function that is told of a rule, some of them often."""
    m, scale, shapes, cuts = told
    rule = Rule(*told)
    kind = draw.randrange(len(shapes))
    n = 2 if how_many(told, kind, 2) <= 300 else 1
    floor = floor_of(rule, kind, n)
    patch = [draw.choice(floor)[1] for _ in range(3)]
    address, long = some_address(draw, told, kind, n), some_address(draw, told, kind, 12)
    one = draw.choice(floor)[1]
    pair = relation(rule, *[draw.choice(floor_of(rule, kind, 1))[1] for _ in range(2)])
    far = [(own, joined(Frame(m), move, (1, 1, ((3, 0), (-7, 0))))) for own, move in patch]
    return [(corners, one), (greater, kind), (lack,), (piece_at, kind, address), (piece_at, kind, long),
            (floor_of, kind, n), (floor_of, kind, 0), (holders, kind, n, corners(rule, one)[0]),
            (neighbours, kind, address), (neighbours, kind, long), (relation, one, patch[0]), (led, pair, 0, 0),
            (relations,), (side_on_side,), (table,), (counts, kind, 200), (direction,), (same_by, patch, far),
            (same_by, patch, patch[:2]), (sought, kind, n, patch), (sought, kind, n, far), (star, kind, address),
            (star, kind, long), (found_stars,), (stars,), (never,), (show_rule,), (Rule.shapes,), (Rule.cuts,),
            (Rule.scale,)]


def asked(rule, question):
    call, *handed = question
    try:
        return call(rule, *handed)
    except FloorError as taken:
        return taken.__class__.__name__


def lists_in(thing):
    """All lists and dicts in what was told, itself too."""
    if isinstance(thing, (list, tuple)):
        inner = [found for part in thing for found in lists_in(part)]
        return inner + [thing] * isinstance(thing, list)
    if isinstance(thing, dict):
        return [found for part in thing.values() for found in lists_in(part)] + [thing]
    return []


def ruin(thing):
    for found in lists_in(thing):
        found.clear()


class InterfaceTest(unittest.TestCase):
    def names_of(self, call):
        return " ".join(inspect.signature(call).parameters)

    def test_functions(self):
        for module, rows in INTERFACE.items():
            for name, arguments in rows.items():
                call = getattr(importlib.import_module("inflate." + module), name)
                self.assertTrue(inspect.isfunction(call))
                self.assertEqual(self.names_of(call), arguments, name)

    def test_classes(self):
        for module, rows in CLASSES.items():
            for name, (arguments, methods) in rows.items():
                made = getattr(importlib.import_module("inflate." + module), name)
                self.assertTrue(inspect.isclass(made))
                self.assertEqual(self.names_of(made), arguments)
                for method, words in methods.items():
                    self.assertEqual(self.names_of(getattr(made, method)), ("self " + words).strip(), method)

    def test_functions_are_defined_where_they_are_told(self):
        for module, rows in INTERFACE.items():
            for name in rows:
                self.assertEqual(getattr(importlib.import_module("inflate." + module), name).__module__,
                                 "inflate." + module)


class FilledTest(FloorsTest):
    """A rule that lacks nothing has floors that are filled, no two pieces over one another; reckoned in the plane."""

    def fills(self, rule, kind, n):
        m, frame = rule.frame().size(), rule.frame()
        great = frame.power(rule.scale(), n)
        whole = [in_plane(m, scaled(frame, corner, great)) for corner in rule.shapes()[kind]]
        floor = floor_of(rule, kind, n)
        pieces = [[in_plane(m, corner) for corner in corners(rule, piece)] for address, piece in floor]
        inside = all(plane_where(whole, place) >= 0 for piece in pieces for place in piece)
        apart = all(plane_common(one, other) < NEAR for one, other in itertools.combinations(pieces, 2))
        return inside and apart and abs(sum(map(plane_area, pieces)) - plane_area(whole)) < NEAR

    def test_floors_are_filled(self):
        for told, draw in self.each_rule(anew=0):
            rule = Rule(*mixed(draw, told))
            self.assertIsNone(lack(rule))
            for kind, n in itertools.product(range(len(told[2])), range(3)):
                if how_many(told, kind, n) <= 16:
                    self.assertTrue(self.fills(rule, kind, n))

    def cut_fills(self, told, kind):
        m, scale, shapes, cuts = told
        rule, times = Rule(*told), decimal_value(m, scale)
        whole = [tuple(times * way for way in in_plane(m, corner)) for corner in shapes[kind]]
        parts = [[in_plane(m, corner) for corner in corners(rule, part)] for part in cuts[kind]]
        return (all(plane_where(whole, place) >= 0 for part in parts for place in part)
                and all(plane_common(one, other) < NEAR for one, other in itertools.combinations(parts, 2))
                and abs(sum(map(plane_area, parts)) - plane_area(whole)) < NEAR)

    def test_a_part_put_otherwise(self):
        # Any one part put anyhow: it lacks something just where the cut is not filled.
        seen = set()
        for told, draw in self.each_rule(anew=0):
            m, scale, shapes, cuts = told
            for _ in range(6):
                kind = draw.randrange(len(shapes))
                place = draw.randrange(len(cuts[kind]))
                own, (turn, flip, off) = cuts[kind][place]
                new = draw.choice(((draw.randrange(len(shapes)), (turn, flip, off)), (own, ((turn + 1) % m, flip, off)),
                                   (own, (turn, 1 - flip, off)), (own, (turn, flip, (some_small(draw, m), off[1]))),
                                   (own, (turn, flip, off)), mixed(draw, told)[3][kind][place]))
                changed = (m, scale, shapes, [list(cut) for cut in cuts])
                changed[3][kind][place] = new
                filled = self.cut_fills(changed, kind)
                self.assertIs(lack(Rule(*changed)) is None, filled)
                seen.add((m, filled))
        self.assertEqual(seen, set(itertools.product(SIZES, (True, False))))

    def test_each_piece_by_one_address(self):
        for told, draw in self.each_rule():
            rule = Rule(*told)
            for kind, n in itertools.product(range(len(told[2])), range(5)):
                if how_many(told, kind, n) <= 300:
                    floor = floor_of(rule, kind, n)
                    self.assertEqual(len({piece for address, piece in floor}), len(floor))
                    self.assertEqual([len([piece for address, piece in floor if piece[0] == own])
                                      for own in range(len(told[2]))], counts(rule, kind, n))

    def test_neighbours_are_those_of_the_floor(self):
        for told, draw in self.each_rule(anew=0):
            m, rule = told[0], Rule(*mixed(draw, told))
            for kind in range(len(told[2])):
                n = max(n for n in range(4) if how_many(told, kind, n) <= 16)
                laid = [(address, [in_plane(m, corner) for corner in corners(rule, piece)])
                        for address, piece in floor_of(rule, kind, n)]
                for address, places in draw.sample(laid, min(4, len(laid))):
                    self.assertEqual(neighbours(rule, kind, address), [
                        other for other, beside in laid
                        if other != address and plane_side_between(places, beside) is not None])


class OtherwiseTest(FloorsTest):
    """The same rule told otherwise tells the same."""

    def holds_alike(self, one, other, asked_too=()):
        """As many relations and stars, the same word of never, and the same counts."""
        for call, due in ((relations, len), (found_stars, len), (stars, len), (never, lambda found: found[0]),
                          (side_on_side, bool), (lack, bool), *asked_too):
            self.assertEqual(*[self.answer(call, due, rule) for rule in (one, other)])

    def answer(self, call, due, rule):
        found = asked(rule, (call,))
        return found if isinstance(found, str) else due(found)

    def laid_elsewhere(self, draw, told):
        """The shapes moved and begun at another corner, the parts moved with them; and how each shape was moved."""
        m, scale, shapes, cuts = told
        frame = Frame(m)
        moves = [(draw.randrange(m), draw.randrange(2), (some_small(draw, m), some_small(draw, m))) for _ in shapes]
        new_shapes = []
        for move, shape in zip(moves, shapes):
            points = [moved(frame, move, corner) for corner in shape][::-1 if move[1] else 1]
            start = draw.randrange(len(points))
            new_shapes.append(points[start:] + points[:start])
        great = [self.great(told, move, 1) for move in moves]
        new_cuts = [[(own, joined(frame, back(frame, moves[own]), joined(frame, move, great[kind])))
                     for own, move in cut] for kind, cut in enumerate(cuts)]
        return (m, scale, new_shapes, new_cuts), moves

    def great(self, told, move, n):
        frame = Frame(told[0])
        return (move[0], move[1], scaled(frame, move[2], frame.power(told[1], n)))

    def test_shapes_laid_elsewhere(self):
        for told, draw in self.each_rule(anew=0):
            new, moves = self.laid_elsewhere(draw, told)
            one, other, frame = Rule(*told), Rule(*new), Frame(told[0])
            self.holds_alike(one, other, [(table, list), (direction, list)])
            for n in (0, 1, 2, 3, 12):
                kind = draw.randrange(len(told[2]))
                address, great = some_address(draw, told, kind, n), self.great(told, moves[kind], n)
                places = [corners(rule, piece_at(rule, kind, address)) for rule in (one, other)]
                self.assertEqual(sorted(moved(frame, great, corner) for corner in places[0]), sorted(places[1]))
                self.assertEqual(piece_at(one, kind, address)[0], piece_at(other, kind, address)[0])
                self.assertEqual(neighbours(one, kind, address), neighbours(other, kind, address))
                self.assertEqual(star(one, kind, address)[::2], star(other, kind, address)[::2])
                self.assertEqual(len(star(one, kind, address)[1]), len(star(other, kind, address)[1]))
                if n < 3 and how_many(told, kind, n) <= 300:
                    point = places[0][0]
                    self.assertEqual(holders(one, kind, n, point), holders(other, kind, n, moved(frame, great, point)))

    def test_reasons_of_shapes_laid_elsewhere(self):
        # The reasons hang on the parts' numbers alone, so they stay, too.
        for name in FULL:
            if name not in TOO_MANY_STARS:
                told = full(name)
                one, other = Rule(*told), Rule(*self.laid_elsewhere(source(f"{self.id()} {name}"), told)[0])
                self.assertEqual(*[[reason for pair, reason in relations(rule)] for rule in (one, other)])
                self.assertEqual(*[[(row[0], len(row[1])) + row[2:] for row in found_stars(rule)]
                                   for rule in (one, other)])
                self.assertEqual(*[sorted((kind, len(others), ups) for kind, others, ups in stars(rule))
                                   for rule in (one, other)])

    def test_parts_in_another_order(self):
        for told, draw in self.each_rule(anew=0):
            m, scale, shapes, cuts = told
            orders = [draw.sample(range(len(cut)), len(cut)) for cut in cuts]
            new = (m, scale, shapes, [[cut[i] for i in order] for cut, order in zip(cuts, orders)])
            one, other = Rule(*told), Rule(*new)
            self.holds_alike(one, other, [
                (table, list), (direction, list), (relations, lambda rows: sorted(pair for pair, reason in rows)),
                (found_stars, lambda rows: sorted(row[:3] for row in rows)),
                (stars, lambda rows: [(row[0], row[1], len(row[2])) for row in rows])])
            for n in (0, 1, 2, 3, 12):
                kind = draw.randrange(len(shapes))
                address = some_address(draw, told, kind, n)
                renumbered = self.renumbered(told, orders, kind, address)
                self.assertEqual(piece_at(one, kind, address), piece_at(other, kind, renumbered))
                self.assertEqual(star(one, kind, address), star(other, kind, renumbered))
                self.assertEqual(sorted(self.renumbered(told, orders, kind, beside)
                                        for beside in neighbours(one, kind, address)),
                                 neighbours(other, kind, renumbered))

    def renumbered(self, told, orders, kind, address):
        answer = ()
        for number in address:
            answer += (orders[kind].index(number),)
            kind = told[3][kind][number][0]
        return answer

    def test_kinds_in_another_order(self):
        for told, draw in self.each_rule(anew=0):
            count = len(told[2])
            order = draw.sample(range(count), count)
            one, other = Rule(*told), Rule(*reordered(told, order))
            named = order.index
            self.holds_alike(one, other)
            self.assertEqual(self.answer(direction, lambda shares: shares, other),
                             self.answer(direction, lambda shares: [shares[kind] for kind in order], one))
            self.assertEqual(self.answer(relations, lambda rows: sorted(pair for pair, reason in rows), other),
                             self.answer(relations, lambda rows: sorted((named(pair[0]), named(pair[1]), pair[2])
                                                                        for pair, reason in rows), one))
            self.assertEqual(self.answer(stars, lambda rows: rows, other), self.answer(stars, lambda rows: sorted(
                (named(kind), self.renamed(order, others), sorted((named(k), i) for k, i in ups))
                for kind, others, ups in rows), one))
            for n in (0, 1, 2, 3, 12):
                kind = draw.randrange(count)
                address = some_address(draw, told, kind, n)
                piece = piece_at(one, kind, address)
                self.assertEqual(piece_at(other, named(kind), address), (named(piece[0]), piece[1]))
                self.assertEqual(neighbours(other, named(kind), address), neighbours(one, kind, address))
                own, others, whole = star(one, kind, address)
                self.assertEqual(star(other, named(kind), address), (named(own), self.renamed(order, others), whole))
                self.assertEqual(counts(other, named(kind), n), [counts(one, kind, n)[own] for own in order])

    def renamed(self, order, others):
        return tuple(sorted((order.index(kind), move) for kind, move in others))


class OwnTest(FloorsTest):
    """Nothing handed in is changed, all that is told is the asker's own, and nothing asked later changes it."""

    def each_few(self):
        for name in FULL:
            draw = source(f"{self.id()} {name}")
            yield full(name), draw

    def test_nothing_told_is_changed_later(self):
        for told, draw in self.each_few():
            rows = questions(told, draw)
            rule = Rule(*told)
            draw.shuffle(rows)
            answers = [asked(rule, row) for row in rows]
            before = copy.deepcopy(answers)
            again = [asked(rule, row) for row in reversed(rows)][::-1]
            self.assertEqual(answers, before)
            self.assertEqual(again, before)

    def test_what_is_told_is_the_askers_own(self):
        for told, draw in self.each_few():
            rows = questions(told, draw)
            rule = Rule(*told)
            answers = [asked(rule, row) for row in rows]
            again = [asked(rule, row) for row in rows]
            found = [id(thing) for answer in answers + again for thing in lists_in(answer)]
            self.assertEqual(len(found), len(set(found)))
            due = copy.deepcopy(again)
            for answer in answers:
                ruin(answer)
            self.assertEqual(again, due)
            self.assertEqual([asked(rule, row) for row in rows], due)
            for answer in again:
                ruin(answer)
            self.assertEqual([asked(rule, row) for row in reversed(rows)], due[::-1])

    def test_in_any_order(self):
        for name in SOME:
            told, draw = full(name), source(f"{self.id()} {name}")
            rows = questions(told, draw)
            due = [asked(Rule(*told), row) for row in rows]
            for _ in range(2):
                order = draw.sample(range(len(rows)), len(rows))
                rule = Rule(*told)
                for number in order:
                    answer = asked(rule, rows[number])
                    self.assertEqual(answer, due[number])
                    ruin(answer)

    def test_nothing_handed_in_is_changed(self):
        for told, draw in self.each_few():
            before = copy.deepcopy(told)
            rule = Rule(*told)
            rows = questions(told, draw)
            handed = [row[1:] for row in rows]
            kept = copy.deepcopy(handed)
            for row in rows:
                asked(rule, row)
            self.assertEqual(handed, kept)
            self.assertEqual(told, before)
            self.assertEqual((rule.frame().size(), rule.scale(), rule.shapes(), rule.cuts()), before)

    def test_shapes_handed_in(self):
        for told, draw in self.each_few():
            m, scale, shapes, cuts = told
            frame = Frame(m)
            before = copy.deepcopy(shapes)
            for shape, other in itertools.product(shapes, repeat=2):
                is_shape(frame, shape)
                twice(frame, shape)
                where(frame, shape, shape[0])
                are_apart(frame, shape, other)
                far = [added(corner, ((1000, 0), (0, 0))) for corner in other]
                side_between(frame, shape, far)
            self.assertEqual(shapes, before)

    def test_what_is_changed_behind_a_call(self):
        for told, draw in self.each_few():
            rows = questions(told, draw)
            known = Rule(*told)
            due = [asked(known, row) for row in rows]
            mine = copy.deepcopy(told)
            rule = Rule(*mine)
            ruin(mine)
            patches = copy.deepcopy(rows)
            self.assertEqual([asked(rule, row) for row in patches], due)
            for row in patches:
                for thing in row[1:]:
                    ruin(thing)
            self.assertEqual([asked(rule, row) for row in rows], due)

    def test_desks(self):
        for name in SOME:
            desk, again = Desk(FULL[name]), Desk(FULL[name])
            rows = ("look", "show", "piece 0 0", "grow 0 20", "near 0 0", "relations", "shares", "find 0 1 0", "never")
            due = [asked(again, (Desk.say, row)) for row in rows]
            self.assertEqual([asked(desk, (Desk.say, row)) for row in reversed(rows)], due[::-1])

    def test_numbers_and_points(self):
        # All of them are told as tuples of tuples, in which nothing can be changed.
        for m in SIZES:
            frame, draw = Frame(m), source(f"{self.id()} {m}")
            one, other = [(some_small(draw, m), some_small(draw, m)) for _ in range(2)]
            move = (1, 1, one)
            for found in (frame.number(1, 2), frame.times(one[0], one[1]), frame.power(one[0], 3), plus(*one),
                          minus(*one), turned(frame, one, 3), mirrored(frame, one), added(one, other),
                          scaled(frame, one, other[0]), moved(frame, move, other), joined(frame, move, move),
                          back(frame, move), cross(frame, one, other)):
                self.assertIsInstance(found, tuple)
                self.assertEqual(lists_in(found), [])

    def test_nothing_hangs_on_chance(self):
        # The same words from programs of their own, however they shuffle what they hash.
        script = ("from inflate.texts import read_rule\nfrom inflate.stars import found_stars, never\n"
                  "from inflate.sides import relations\nfrom inflate.patches import sought\n"
                  f"rule = read_rule({FULL['golden in three and two']!r})\n"
                  f"patch = [(1, {STAY!r})]\n"
                  "print(relations(rule), found_stars(rule), never(rule), sought(rule, 0, 3, patch))")
        top = Path(__file__).resolve().parent.parent
        answers = {subprocess.run([sys.executable, "-c", script], cwd=top, check=True, capture_output=True,
                                  env={**os.environ, "PYTHONHASHSEED": seed}).stdout for seed in ("0", "1", "77")}
        self.assertEqual(len(answers), 1)
        rule = Rule(*read(FULL["golden in three and two"]))
        self.assertEqual(answers.pop().decode().strip(), " ".join(map(repr, (
            relations(rule), found_stars(rule), never(rule), sought(rule, 0, 3, [(1, STAY)])))))


class RefusedTest(FloorsTest):
    """Each function that is told of floors: what it is refused with, alone and two at once."""

    def with_kind(self, kind, address, n):
        return [(piece_at, kind, address), (floor_of, kind, n), (holders, kind, n, ORIGIN), (neighbours, kind, address),
                (counts, kind, n), (sought, kind, n, [(0, STAY)]), (star, kind, address)]

    def of_the_rule(self):
        return [(relations,), (side_on_side,), (table,), (direction,), (found_stars,), (stars,), (never,),
                (same_by, [(0, STAY)], [(0, STAY)]), (relation, (0, STAY), (0, STAY)), (led, (0, 0, STAY), 0, 0)]

    def test_no_fill_ahead_of_all(self):
        for told, due in lacking_rules():
            rule = Rule(*told)
            for kind, address, n in itertools.product((0, -1, 9), ((), (0,), (99,), (0,) * 13), (0, 12)):
                for call, *handed in self.with_kind(kind, address, n):
                    self.assertEqual(self.refused("NoFill", call, rule, *handed).lack, due)
            for call, *handed in self.of_the_rule():
                self.assertEqual(self.refused("NoFill", call, rule, *handed).lack, due)
            self.assertEqual(lack(rule), due)
            self.assertIsInstance(show_rule(rule), str)
            self.assertEqual(lack(read_rule(show_rule(rule))), due)

    def test_lacking_copies_of_rules_that_are_refused_otherwise(self):
        # NoFill ahead of NoShares and of TooMany.
        for name in ("squares one way", "squares with 120 relations") + TOO_MANY_RELATIONS:
            m, scale, shapes, cuts = full(name)
            rule = Rule(m, scale, shapes, cuts[:-1] + [cuts[-1][1:]])
            for call, *handed in self.of_the_rule() + self.with_kind(0, (0,) * 12, 12):
                self.assertEqual(self.refused("NoFill", call, rule, *handed).lack, lack(rule))

    def test_no_kind_ahead_of_no_address_and_too_many(self):
        for told, draw in self.each_rule(anew=0):
            rule = Rule(*told)
            for kind in (-1, len(told[2]), 10 ** 59):
                for address, n in (((), 0), ((0,), 1), ((99,), 12), ((0,) * 13, 12)):
                    for call, *handed in self.with_kind(kind, address, n):
                        self.refused("NoKind", call, rule, *handed)

    def test_no_address_and_too_many_alone(self):
        for told, draw in self.each_rule(anew=0):
            rule = Rule(*told)
            for call in (piece_at, neighbours, star):
                for address in ((99,), (-1,), (0,) * 13):
                    self.refused("NoAddress", call, rule, 0, address)
            for call, *handed in ((floor_of, 12), (holders, 12, ORIGIN), (sought, 12, [(0, STAY)])):
                self.refused("TooMany", call, rule, 0, *handed)

    def test_too_many_relations_or_stars(self):
        for name in FULL:
            rule = Rule(*full(name))
            for call in (relations, side_on_side):
                if name in TOO_MANY_RELATIONS:
                    self.refused("TooMany", call, rule)
            for call in (found_stars, stars, never):
                if name in TOO_MANY_STARS:
                    self.refused("TooMany", call, rule)
            if name in TOO_MANY_STARS:
                self.assertIsInstance(neighbours(rule, 0, (0, 0)), list)
                self.assertIsInstance(star(rule, 0, (0, 0)), tuple)

    def test_all_refusals_stay_the_same(self):
        for told, due in lacking_rules():
            rule = Rule(*told)
            for _ in range(2):
                self.assertEqual(self.refused("NoFill", never, rule).lack, due)
                self.assertEqual(self.refused("NoFill", floor_of, rule, 0, 1).lack, due)
                self.assertEqual(lack(rule), due)


if __name__ == "__main__":
    unittest.main()
