import copy
import itertools
import unittest
from functools import lru_cache

from inflate.floors import floor_of, piece_at
from inflate.looks import corners, lack
from inflate.rules import Rule
from inflate.shapes import side_between
from inflate.sides import neighbours, relation, relations
from inflate.stars import found_stars, never, star, stars
from tests.helper import (FULL, NEAR, SIZES, FloorsTest, full, how_many, in_plane, is_move, is_whole, lacking_rules,
                          mixed, plane_far, plane_key, plane_shared, plane_stars, plane_three, read, redrawn,
                          some_address, source)

ORIGIN = ((0, 0), (0, 0))
STAY = (0, 0, ORIGIN)
MOST_STARS = 300
TOO_MANY_RELATIONS = ("squares with 121 relations", "golden strips")
TOO_MANY = TOO_MANY_RELATIONS + ("squares with 120 relations",)
# With parts turned and mirrored anew these may have too many.
GREAT = ("domino in four", "squares 300", "squares 301", "squares 300 thrice", "squares one way", "offset squares",
         "squares side by side", "rectangles by one and root 3")
NEVER = ("domino in four", "half hexagon in four", "offset squares")

JUST_300 = """frame 6
scale 2
shape 0:0 1:0 0:1
shape 0:0 2:0 0:2
cut
part 1 2 0 2:0
cut
part 1 2 0 2:0
part 1 3 1 4:0
part 1 0 1 0:2
part 0 3 1 1:2
part 0 3 1 2:2
part 0 0 0 0:3
part 0 5 0 0:3"""
ONE_MORE = """frame 6
scale 2
shape 0:0 1:0 0:1
shape 0:0 2:0 0:2
cut
part 1 2 0 2:0
cut
part 1 5 1 0:2
part 1 2 0 4:0
part 1 1 0 2:0
part 0 5 1 0:3
part 0 0 0 1:2
part 0 0 0 0:3
part 0 1 0 1:2"""
# Parts put by other moves of their shapes: which part it was can then be told from the neighbours.
NEVER_BY_PARTS = (
    """frame 8
scale 0,1
shape 0:0 1:0 -1:0,1
shape 0:0 0,1:0 0,-1:2
cut
part 1 0 0 0:0
cut
part 0 0 0 0:0
part 0 0 0 1:0
part 0 2 1 -1:0,1
part 0 4 0 0:0,1""",
    """frame 10
scale 0,1
shape 0:0 0,1:0 0:0,1
shape 0:0 0,1:0 0:1
cut
part 0 1 1 0:0
part 0 4 1 1,1:0
part 1 4 0 1,1:0
cut
part 0 0 0 0:0
part 1 9 1 0:0,1""",
    """frame 12
scale 0,1
shape 0:0 0,1:0 0:2 0,-1:2
cut
part 0 3 0 1:0
part 0 9 0 -1:0,2
part 0 3 0 2:0""",
)


def off(x, y):
    return ((x, 0), (y, 0))


def many_relations_few_stars():
    """A rule of 121 relations, whose stars would be less than 300."""
    m, scale, shapes, cuts = full("squares 300")
    cuts[0][2] = (0, (3, 0, off(0, 2)))
    cuts[1][9] = (1, (1, 0, off(4, 2)))
    return m, scale, shapes, cuts


@lru_cache(maxsize=None)
def few_stars():
    """Rows (told, rule): rules whose stars are told, as written, redrawn, and with parts turned and mirrored anew."""
    rows = []
    for name in [name for name in FULL if name not in TOO_MANY]:
        draw, first = source("few stars " + name), full(name)
        ways = [first, redrawn(draw, first)] + [mixed(draw, first)] * (name not in GREAT)
        rows += [(told, Rule(*told)) for told in ways]
    return rows + [(read(text), Rule(*read(text))) for text in NEVER_BY_PARTS]


def due_others(rule, kind, address):
    """By neighbours and relation, as point 25 has it."""
    one = piece_at(rule, kind, address)
    pairs = [relation(rule, one, piece_at(rule, kind, other)) for other in neighbours(rule, kind, address)]
    return tuple(sorted((l, move) for k, l, move in pairs))


def places_of(rule, piece):
    return [in_plane(rule.frame().size(), corner) for corner in corners(rule, piece)]


def is_around(rule, kind, address):
    """Whether the piece's border runs along its neighbours, told by lengths in the plane."""
    places = places_of(rule, piece_at(rule, kind, address))
    length = sum(plane_far(one, other) for one, other in zip(places, places[1:] + places[:1]))
    beside = [places_of(rule, piece_at(rule, kind, other)) for other in neighbours(rule, kind, address)]
    return abs(length - sum(plane_shared(places, other) for other in beside)) < NEAR


def floor_stars(rule, kind, n):
    """For each address of the floor the kind and the others, each two pieces of the floor looked at."""
    frame = rule.frame()
    rows = [(address, piece, corners(rule, piece)) for address, piece in floor_of(rule, kind, n)]
    others = {address: [] for address, piece, shape in rows}
    for one, other in itertools.combinations(rows, 2):
        if side_between(frame, one[2], other[2]) is not None:
            others[one[0]].append(relation(rule, one[1], other[1])[1:])
            others[other[0]].append(relation(rule, other[1], one[1])[1:])
    return {address: (piece[0], tuple(sorted(others[address]))) for address, piece, shape in rows}


def in_places(m, others):
    return frozenset((l, plane_key(plane_three(m, move))) for l, move in others)


def where_found(rows):
    """For each star found a floor's kind and an address, told by the reasons."""
    found = []
    for kind, others, whole, reason in rows:
        if reason[0] == "bare":
            found.append((reason[1], ()))
        else:
            found.append((found[reason[1]][0], found[reason[1]][1] + (reason[2],)))
    return found


class StarsTest(FloorsTest):
    def each_way(self):
        for told, draw in self.each_rule():
            yield told, draw
            yield mixed(draw, told), draw

    def each_told(self):
        draw = source(self.id())
        for told, rule in few_stars():
            yield told, draw, rule

    def some_told(self):
        """Some of them, drawn for the tests that make each rule anew."""
        draw = source(self.id())
        for told, rule in draw.sample(few_stars(), 20):
            yield told, draw, rule


class StarTest(StarsTest):
    def test_as_written(self):
        rule = Rule(*full("square in four"))
        right, above, left, below = [(0, (0, 0, off(x, y))) for x, y in ((1, 0), (0, 1), (-1, 0), (0, -1))]
        self.assertEqual(star(rule, 0, ()), (0, (), False))
        self.assertEqual(star(rule, 0, (0,)), (0, (above, right), False))
        self.assertEqual(star(rule, 0, (2,)), (0, (left, below), False))
        self.assertEqual(star(rule, 0, (1, 0)), (0, (left, above, right), False))
        self.assertEqual(star(rule, 0, (0, 2)), (0, (left, below, above, right), True))
        self.assertEqual(star(rule, 0, (2,) * 12), (0, (left, below), False))
        self.assertEqual(star(rule, 0, (0,) + (2,) * 11), (0, (left, below, above, right), True))

    def test_sides_that_meet_in_part(self):
        rule = Rule(*full("offset squares"))
        # The upper square lies over two halves of squares, and nothing lies over it.
        self.assertEqual(star(rule, 1, (3,)), (1, (
            (0, (0, 0, off(-1, 0))), (0, (0, 0, off(2, 0))), (1, (0, 0, off(-1, -2))), (1, (0, 0, off(1, -2)))), False))
        # Each side of a whole one is lain along by one or two.
        kind, others, whole = star(rule, 1, (0, 3))
        self.assertIs(whole, True)
        self.assertEqual((kind, len(others)), (1, 6))

    def test_unlike_kinds_with_like_moves(self):
        rule = Rule(*full("squares side by side"))
        self.assertEqual(star(rule, 0, (0,)), (0, ((0, (0, 0, off(0, 1))), (1, STAY)), False))
        self.assertEqual(star(rule, 1, (0, 3)), (1, (
            (0, STAY), (0, (0, 0, off(2, 0))), (1, (0, 0, off(0, -1))), (1, (0, 0, off(0, 1)))), True))

    def test_half_a_side_open(self):
        # The greater square has a lesser one at each half of a side, but for the last.
        m, scale, shapes, cuts = full("squares one way")
        rule = Rule(m, scale, shapes, cuts)
        self.assertEqual(star(rule, 1, (2,)), (1, (
            (0, (0, 0, off(2, 0))), (0, (0, 0, off(2, 1))), (1, (0, 0, off(0, -2)))), False))

    def test_an_irrational_one_as_written(self):
        rule = Rule(*full("golden in three and two"))
        self.assertEqual(star(rule, 1, (0,)), (0, ((1, (4, 0, ((1, 1), (0, 0)))),), False))
        self.assertEqual(star(rule, 1, (1,)), (1, ((0, (6, 0, ((0, 0), (1, 1)))),), False))

    def test_of_a_whole_floor(self):
        for told, draw in self.each_way():
            for kind in range(len(told[2])):
                self.assertEqual(star(Rule(*told), kind, ()), (kind, (), False))

    def test_against_neighbours_and_the_border(self):
        seen = set()
        for told, draw in self.each_way():
            rule = Rule(*told)
            for n in range(13):
                kind = draw.randrange(len(told[2]))
                address = some_address(draw, told, kind, n)
                found = star(rule, kind, address)
                self.assertEqual(found, (piece_at(rule, kind, address)[0], due_others(rule, kind, address),
                                         is_around(rule, kind, address)))
                seen.add((told[0], found[2]))
        self.assertEqual(seen, set(itertools.product(SIZES, (True, False))))

    def test_against_floors(self):
        for told, draw in self.each_way():
            rule = Rule(*told)
            for kind, n in itertools.product(range(len(told[2])), range(1, 4)):
                if how_many(told, kind, n) <= 30:
                    for address, due in floor_stars(rule, kind, n).items():
                        self.assertEqual(star(rule, kind, address)[:2], due)

    def test_whole_against_the_border_of_the_floor(self):
        # In the floor itself a piece is closed around just where no side of it lies along the floor's border.
        for told, draw in self.each_rule(anew=0):
            rule = Rule(*told)
            kind, n = draw.randrange(len(told[2])), 3
            frame = rule.frame()
            great = [in_plane(told[0], tuple(frame.times(number, frame.power(told[1], n)) for number in corner))
                     for corner in told[2][kind]]
            if how_many(told, kind, n) <= 300:
                for address, piece in floor_of(rule, kind, n):
                    at_border = plane_shared(places_of(rule, piece), great) > NEAR
                    self.assertIs(star(rule, kind, address)[2], not at_border)

    def test_the_form(self):
        for told, draw in self.each_way():
            rule, m, count = Rule(*told), told[0], len(told[2])
            for n in (0, 1, 2, 5, 12):
                found = star(rule, 0, some_address(draw, told, 0, n))
                self.assertTrue(isinstance(found, tuple) and len(found) == 3)
                kind, others, whole = found
                self.assertTrue(is_whole(kind) and 0 <= kind < count)
                self.assertIsInstance(others, tuple)
                self.assertEqual(others, tuple(sorted(set(others))))
                self.assertIsInstance(whole, bool)
                for other in others:
                    self.assertTrue(isinstance(other, tuple) and len(other) == 2)
                    self.assertTrue(is_whole(other[0]) and 0 <= other[0] < count and is_move(m, other[1]))

    def test_hangs_on_the_star_above_and_the_part(self):
        for told, draw in self.each_way():
            rule, known = Rule(*told), {}
            for _ in range(20):
                kind = draw.randrange(len(told[2]))
                address = some_address(draw, told, kind, draw.randrange(1, 5))
                above = (star(rule, kind, address[:-1]), address[-1])
                found = star(rule, kind, address)
                self.assertEqual(known.setdefault(above, found), found)

    def test_told_where_relations_or_stars_are_too_many(self):
        rules = [full(name) for name in TOO_MANY] + [read(ONE_MORE), many_relations_few_stars()]
        for told in rules:
            rule, draw = Rule(*told), source(self.id())
            self.refused("TooMany", found_stars, rule)
            for n in (0, 1, 2, 3, 6, 12):
                kind = len(told[2]) - 1
                address = some_address(draw, told, kind, n)
                self.assertEqual(star(rule, kind, address), (
                    piece_at(rule, kind, address)[0], due_others(rule, kind, address), is_around(rule, kind, address)))

    def test_asked_again(self):
        for told, draw in self.each_rule(anew=0):
            rule = Rule(*told)
            asked = [(kind, some_address(draw, told, kind, n)) for n in (3, 1, 12, 2) for kind in range(len(told[2]))]
            due = [star(Rule(*told), kind, address) for kind, address in asked]
            for rows in (list(zip(asked, due)), list(zip(asked, due))[::-1]):
                for (kind, address), found in rows:
                    neighbours(rule, kind, address).clear()
                    self.assertEqual(star(rule, kind, address), found)


class FoundStarsTest(StarsTest):
    def test_as_written(self):
        rule = Rule(*full("square in four"))
        right, above, left, below = [(0, (0, 0, off(x, y))) for x, y in ((1, 0), (0, 1), (-1, 0), (0, -1))]
        self.assertEqual(found_stars(rule), [
            (0, (), False, ("bare", 0)),
            (0, (above, right), False, ("cut", 0, 0)), (0, (left, above), False, ("cut", 0, 1)),
            (0, (left, below), False, ("cut", 0, 2)), (0, (below, right), False, ("cut", 0, 3)),
            (0, (left, above, right), False, ("cut", 1, 1)),
            (0, (left, below, above, right), True, ("cut", 1, 2)),
            (0, (below, above, right), False, ("cut", 1, 3)),
            (0, (left, below, above), False, ("cut", 2, 2)),
            (0, (left, below, right), False, ("cut", 3, 3))])

    def test_kinds_that_are_alone(self):
        # Each of the first three is cut into one piece alone, and that star is there already.
        rows = found_stars(Rule(*full("slow half squares")))
        self.assertEqual([row[:2] + row[3:] for row in rows[:6]], [
            (0, (), ("bare", 0)), (1, (), ("bare", 1)), (2, (), ("bare", 2)), (3, (), ("bare", 3)),
            (3, ((3, (2, 0, ORIGIN)),), ("cut", 3, 0)), (3, ((3, (6, 0, ORIGIN)),), ("cut", 3, 1))])
        self.assertEqual([row[3] for row in rows[6:]],
                         [("cut", 4, 0), ("cut", 5, 1), ("cut", 6, 0), ("cut", 6, 1)])

    def in_plane_holds(self, told):
        due = plane_stars(told, MOST_STARS)
        rule = Rule(*told)
        if due is None:
            self.refused("TooMany", found_stars, rule)
            return False
        found = found_stars(rule)
        self.assertEqual([(kind, in_places(told[0], others), whole, reason)
                          for kind, others, whole, reason in found], due[0])
        self.ups_hold(told, rule, *due)
        return True

    def ups_hold(self, told, rule, rows, parts):
        ups = {}
        for (kind, others, whole, reason), cut in zip(rows, parts, strict=True):
            for i, part in enumerate(cut):
                ups.setdefault(part, set()).add((kind, i))
        due = {(kind, others): sorted(ups[(kind, others)]) for kind, others, whole, reason in rows if whole}
        found = stars(rule)
        self.assertEqual({(kind, in_places(told[0], others)): up for kind, others, up in found}, due)
        self.assertEqual(len(found), len(due))

    def test_against_places_in_the_plane(self):
        told_of = set()
        for name in FULL:
            if name not in TOO_MANY and name != "rectangles by one and root 3":
                told = redrawn(source(f"{self.id()} {name}"), full(name))
                self.assertTrue(self.in_plane_holds(told))
                told_of.add(told[0])
        self.assertEqual(told_of, set(SIZES))

    def test_against_places_with_parts_turned_and_mirrored(self):
        told_of = set()
        for name in FULL:
            if name not in TOO_MANY + GREAT + ("octagonal",):
                draw = source(f"{self.id()} {name}")
                if self.in_plane_holds(mixed(draw, redrawn(draw, full(name)))):
                    told_of.add(full(name)[0])
        self.assertEqual(told_of, set(SIZES))

    def test_against_the_stars_of_addresses(self):
        # The same list, each star asked for by an address of a piece that has it.
        for told, draw, rule in self.each_told():
            rows = [(kind, (), False, ("bare", kind)) for kind in range(len(told[2]))]
            places = [(kind, ()) for kind in range(len(told[2]))]
            known, number = {row[:2] for row in rows}, 0
            while number < len(rows):
                kind, address = places[number]
                for i in range(len(told[3][rows[number][0]]) if len(address) < 12 else 0):
                    found = star(rule, kind, address + (i,))
                    if found[:2] not in known:
                        known.add(found[:2])
                        rows.append((*found, ("cut", number, i)))
                        places.append((kind, address + (i,)))
                number += 1
            deepest = max(len(address) for kind, address in places)
            self.assertEqual(found_stars(rule)[:len(rows) if deepest == 12 else None], rows)

    def test_the_form_of_rows(self):
        for told, draw, rule in self.each_told():
            m, count = told[0], len(told[2])
            rows = found_stars(rule)
            self.assertIsInstance(rows, list)
            self.assertEqual(len({row[:2] for row in rows}), len(rows))
            self.assertEqual([row for row in rows if row[3][0] == "bare"], rows[:count])
            self.assertEqual(rows[:count], [(kind, (), False, ("bare", kind)) for kind in range(count)])
            reasons = [row[3] for row in rows[count:]]
            self.assertEqual(reasons, sorted(set(reasons)))
            for row in rows:
                self.assertTrue(isinstance(row, tuple) and len(row) == 4)
                kind, others, whole, reason = row
                self.assertTrue(is_whole(kind) and 0 <= kind < count)
                self.assertTrue(isinstance(others, tuple) and others == tuple(sorted(set(others))))
                for other in others:
                    self.assertTrue(isinstance(other, tuple) and len(other) == 2)
                    self.assertTrue(is_whole(other[0]) and is_move(m, other[1]))
                self.assertIsInstance(whole, bool)
                self.assertTrue(isinstance(reason, tuple) and len(reason) == (2 if reason[0] == "bare" else 3))
                self.assertTrue(all(is_whole(number) for number in reason[1:]))

    def test_others_are_relations(self):
        for told, draw, rule in self.each_told():
            pairs = {pair for pair, reason in relations(rule)}
            found = {(kind, *other) for kind, others, whole, reason in found_stars(rule) for other in others}
            # Each two neighbours stand in the star of each one of them.
            self.assertEqual(found, pairs)

    def test_reasons_hold(self):
        for told, draw, rule in self.each_told():
            rows = found_stars(rule)
            for row, (kind, address) in zip(rows, where_found(rows)):
                if len(address) <= 12:
                    self.assertEqual(star(rule, kind, address), row[:3])

    def test_those_of_floors(self):
        for told, draw, rule in self.each_told():
            rows = {row[:2] for row in found_stars(rule)}
            for kind, n in itertools.product(range(len(told[2])), range(4)):
                if how_many(told, kind, n) <= 30:
                    self.assertLessEqual(set(floor_stars(rule, kind, n).values()), rows)

    def test_just_300(self):
        for told in (read(JUST_300), redrawn(source(self.id()), read(JUST_300))):
            rule = Rule(*told)
            self.assertLess(len(relations(rule)), 120)
            rows = found_stars(rule)
            self.assertEqual(len(rows), 300)
            self.assertEqual(len({row[:2] for row in rows}), 300)
            self.assertEqual(len(stars(rule)), sum(row[2] for row in rows))
            self.assertEqual(never(rule)[0], "open")
        self.assertEqual(len(plane_stars(read(JUST_300), 300)[0]), 300)

    def test_one_more(self):
        for told in (read(ONE_MORE), redrawn(source(self.id()), read(ONE_MORE))):
            rule = Rule(*told)
            self.assertLess(len(relations(rule)), 120)
            for call in (found_stars, stars, never, found_stars):
                self.refused("TooMany", call, rule)
        self.assertEqual(len(plane_stars(read(ONE_MORE), 301)[0]), 301)

    def test_many_more(self):
        rule = Rule(*full("squares with 120 relations"))
        self.assertEqual(len(relations(rule)), 120)
        for call in (found_stars, stars, never):
            self.refused("TooMany", call, rule)

    def test_where_relations_are_refused(self):
        for told in [full(name) for name in TOO_MANY_RELATIONS] + [many_relations_few_stars()]:
            for way in (told, redrawn(source(self.id()), told)):
                rule = Rule(*way)
                for call in (never, stars, found_stars, relations):
                    self.refused("TooMany", call, rule)
        # Here the stars alone would not be too many.
        self.assertEqual(len(plane_stars(many_relations_few_stars(), 300)[0]), 186)

    def test_asked_again(self):
        for told, draw, known in self.some_told():
            due = copy.deepcopy(found_stars(known))
            rule = Rule(*told)
            first, second = found_stars(rule), found_stars(rule)
            self.assertEqual((first, second), (due, due))
            first.reverse()
            first.append(None)
            self.assertEqual(second, due)
            second.clear()
            relations(rule).clear()
            self.assertEqual(found_stars(rule), due)


class RuleStarsTest(StarsTest):
    def test_as_written(self):
        around = tuple((0, (0, 0, off(x, y))) for x, y in ((-1, 0), (0, -1), (0, 1), (1, 0)))
        self.assertEqual(stars(Rule(*full("square in four"))), [(0, around, [(0, 0), (0, 1), (0, 2), (0, 3)])])
        self.assertEqual(stars(Rule(*full("square in nine"))), [(0, around, [(0, i) for i in range(9)])])
        rows = stars(Rule(*full("slow half squares")))
        self.assertEqual(rows, [(3, ((3, (2, 0, ORIGIN)), (3, (4, 0, off(0, 4))), (3, (6, 0, ORIGIN))),
                                 [(3, 0), (3, 1)])])

    def test_just_the_whole_ones_rising(self):
        for told, draw, rule in self.each_told():
            rows = stars(rule)
            self.assertIsInstance(rows, list)
            self.assertEqual([row[:2] for row in rows], sorted(row[:2] for row in found_stars(rule) if row[2]))
            self.assertTrue(all(one < other for one, other in zip(rows, rows[1:])))
            self.assertTrue(rows)
            for row in rows:
                self.assertTrue(isinstance(row, tuple) and len(row) == 3)
                kind, others, ups = row
                self.assertIsInstance(others, tuple)
                self.assertIsInstance(ups, list)
                self.assertEqual(ups, sorted(set(ups)))
                self.assertTrue(ups)
                for up in ups:
                    self.assertTrue(isinstance(up, tuple) and len(up) == 2 and all(is_whole(number) for number in up))
                    self.assertEqual(told[3][up[0]][up[1]][0], kind)

    def test_against_floors(self):
        for told, draw, rule in self.each_told():
            known = {(kind, others): ups for kind, others, ups in stars(rule)}
            for kind, n in itertools.product(range(len(told[2])), range(1, 5)):
                if how_many(told, kind, n) <= 30:
                    for address, found in floor_stars(rule, kind, n).items():
                        if star(rule, kind, address)[2]:
                            above = piece_at(rule, kind, address[:-1])[0]
                            self.assertIn((above, address[-1]), known[found])
                        else:
                            self.assertNotIn(found, known)

    def test_each_up_comes_in_a_floor(self):
        for told, draw, rule in self.each_told():
            rows = found_stars(rule)
            seen = {}
            for row, (kind, address) in zip(rows, where_found(rows)):
                for i in range(len(told[3][row[0]])):
                    if len(address) < 12:
                        found = star(rule, kind, address + (i,))
                        if found[2]:
                            seen.setdefault(found[:2], set()).add((row[0], i))
            self.assertEqual(stars(rule), [(*known, sorted(seen[known])) for known in sorted(seen)])

    def test_long_addresses(self):
        for told, draw, rule in self.each_told():
            known = {(kind, others): ups for kind, others, ups in stars(rule)}
            for n in (4, 7, 12):
                kind = draw.randrange(len(told[2]))
                address = some_address(draw, told, kind, n)
                found = star(rule, kind, address)
                if found[2]:
                    self.assertIn((piece_at(rule, kind, address[:-1])[0], address[-1]), known[found[:2]])

    def test_asked_again(self):
        for told, draw, known in self.some_told():
            due = copy.deepcopy(stars(known))
            rule = Rule(*told)
            first, second = stars(rule), stars(rule)
            self.assertEqual((first, second), (due, due))
            for kind, others, ups in first:
                ups.clear()
            first.clear()
            self.assertEqual(second, due)
            self.assertEqual(stars(rule), due)
            self.assertEqual(never(rule), never(Rule(*told)))


class NeverTest(StarsTest):
    def test_of_each_rule(self):
        for name in FULL:
            draw = source(f"{self.id()} {name}")
            for told in (full(name), redrawn(draw, full(name))):
                if name in TOO_MANY:
                    self.refused("TooMany", never, Rule(*told))
                else:
                    self.assertEqual(never(Rule(*told))[0], "never" if name in NEVER else "open", name)
        for text in NEVER_BY_PARTS:
            for told in (read(text), redrawn(source(self.id()), read(text))):
                self.assertEqual(never(Rule(*told))[0], "never")

    def test_as_written(self):
        around = tuple((0, (0, 0, off(x, y))) for x, y in ((-1, 0), (0, -1), (0, 1), (1, 0)))
        self.assertEqual(never(Rule(*full("square in four"))), ("open", 0, around, [(0, 0), (0, 1), (0, 2), (0, 3)]))
        word, rows = never(Rule(*full("half hexagon in four")))
        self.assertEqual(word, "never")
        self.assertEqual([(kind, len(others), k, i) for kind, others, k, i in rows],
                         [(0, 4, 0, 0), (0, 4, 0, 2), (0, 4, 0, 1), (0, 4, 0, 3)])

    def test_against_the_stars(self):
        words = set()
        for told, draw, rule in self.each_told():
            rows = stars(rule)
            more = [row for row in rows if len(row[2]) > 1]
            found = never(rule)
            self.assertIsInstance(found, tuple)
            if more:
                self.assertEqual(found, ("open", *more[0]))
                self.assertIsInstance(found[3], list)
            else:
                self.assertEqual(found, ("never", [(kind, others, *ups[0]) for kind, others, ups in rows]))
                self.assertIsInstance(found[1], list)
                self.assertTrue(all(isinstance(row, tuple) and len(row) == 4 for row in found[1]))
            words.add((told[0], found[0]))
        self.assertEqual(words, set(itertools.product(SIZES, ("never", "open"))))

    def test_not_the_first_star_that_is_open(self):
        # The first star that has more ups need not be the first one of all.
        places = set()
        for told, draw, rule in self.each_told():
            found = never(rule)
            if found[0] == "open":
                rows = stars(rule)
                place = [row[:2] for row in rows].index(found[1:3])
                places.add(place > 0)
                self.assertTrue(all(len(ups) == 1 for kind, others, ups in rows[:place]))
                self.assertEqual(rows[place][2], found[3])
        self.assertEqual(places, {True, False})

    def test_one_place_in_the_floors(self):
        # Pieces of one star are the same part of pieces of one kind, wherever they lie.
        for told, draw, rule in self.each_told():
            found = never(rule)
            if found[0] == "never":
                place = {(kind, others): (k, i) for kind, others, k, i in found[1]}
                for kind, n in itertools.product(range(len(told[2])), range(1, 8)):
                    if how_many(told, kind, n) <= 80:
                        for address, piece in floor_of(rule, kind, n):
                            own, others, whole = star(rule, kind, address)
                            if whole:
                                above = piece_at(rule, kind, address[:-1])[0]
                                self.assertEqual(place[(own, others)], (above, address[-1]))

    def test_asked_again(self):
        for told, draw, known in self.some_told():
            due = copy.deepcopy(never(known))
            rule = Rule(*told)
            first, second = never(rule), never(rule)
            self.assertEqual((first, second), (due, due))
            first[-1].clear()
            self.assertEqual(second, due)
            stars(rule)[0][2].clear()
            found_stars(rule).clear()
            self.assertEqual(never(rule), due)

    def test_in_another_order_of_asking(self):
        for told, draw, known in self.some_told():
            due = (star(known, 0, (0, 0, 0)), found_stars(known), stars(known), never(known), relations(known))
            rule = Rule(*told)
            told_late = (relations(rule), never(rule), stars(rule), found_stars(rule), star(rule, 0, (0, 0, 0)))
            self.assertEqual(told_late[::-1], due)


class RefusedTest(StarsTest):
    def test_no_kind(self):
        for told, draw in self.each_rule(anew=0):
            rule, count = Rule(*told), len(told[2])
            for kind in (-1, -count, count, count + 1, 10 ** 59):
                for address in ((), (0,), (99,), (0,) * 13):
                    self.refused("NoKind", star, rule, kind, address)

    def test_no_address(self):
        for told, draw in self.each_rule(anew=0):
            rule = Rule(*told)
            for kind in range(len(told[2])):
                for n in (13, 14, 60):
                    self.refused("NoAddress", star, rule, kind, some_address(draw, told, kind, n))
                for n in (1, 2, 12):
                    address = some_address(draw, told, kind, n)
                    for place in {0, n - 1}:
                        parts = len(told[3][piece_at(rule, kind, address[:place])[0]])
                        for number in (-1, -parts, parts, 10 ** 59):
                            self.refused("NoAddress", star, rule, kind,
                                         address[:place] + (number,) + address[place + 1:])

    def test_no_address_where_stars_are_too_many(self):
        for name in TOO_MANY:
            rule = Rule(*full(name))
            self.refused("TooMany", never, rule)
            self.refused("NoAddress", star, rule, 0, (99,))
            self.refused("NoKind", star, rule, 9, (99,))

    def test_no_fill_goes_ahead_of_all(self):
        for told, due in lacking_rules():
            rule = Rule(*told)
            for kind, address in itertools.product((0, -1, 9), ((), (0,), (99,), (0,) * 13)):
                self.assertEqual(self.refused("NoFill", star, rule, kind, address).lack, due)
            for call in (found_stars, stars, never):
                self.assertEqual(self.refused("NoFill", call, rule).lack, due)

    def test_no_fill_goes_ahead_of_too_many(self):
        for name in TOO_MANY:
            m, scale, shapes, cuts = full(name)
            rule = Rule(m, scale, shapes, cuts[:-1] + [cuts[-1][:-1]])
            for call in (found_stars, stars, never):
                self.assertEqual(self.refused("NoFill", call, rule).lack, lack(rule))

    def test_refusals_change_nothing(self):
        for told, draw, known in self.some_told():
            rule, due = Rule(*told), never(known)
            self.refused("NoKind", star, rule, 9, ())
            self.refused("NoAddress", star, rule, 0, (99,))
            self.assertEqual(never(rule), due)
            self.refused("NoAddress", star, rule, 0, (0,) * 12 + (99,))
            self.assertEqual((never(rule), rule.shapes(), rule.cuts()), (due, told[2], told[3]))


if __name__ == "__main__":
    unittest.main()
