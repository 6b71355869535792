import copy
import itertools
import unittest
from functools import lru_cache

from inflate.floors import floor_of, piece_at
from inflate.frames import Frame
from inflate.looks import corners, lack
from inflate.points import back, joined, moved, scaled
from inflate.rules import Rule
from inflate.shapes import side_between
from inflate.sides import led, neighbours, relation, relations, side_on_side
from tests.helper import (FULL, NEAR, SIZES, FloorsTest, full, how_many, in_plane, is_move, is_whole, lacking_rules,
                          mixed, plane_far, plane_floor, plane_key, plane_relations, plane_shared, plane_side_between,
                          plane_three, read, redrawn, some_address, some_move, source)

ORIGIN = ((0, 0), (0, 0))
STAY = (0, 0, ORIGIN)
MOST_RELATIONS = 120
TOO_MANY = ("squares with 121 relations", "golden strips")
SIDE_ON_SIDE = (
    "square in four", "square in nine", "half square in four", "squares with 120 relations", "squares side by side",
    "triangle in four", "triangle in nine", "hexagon in six", "half hexagon in four", "half square in two",
    "rectangle in two", "slow half squares", "half squares in turn", "right triangle in three", "rectangle in three",
    "hexagon in six by root 3")


def off(x, y):
    return ((x, 0), (y, 0))


def turned_about(m, pair):
    return (pair[1], pair[0], back(Frame(m), pair[2]))


def due_led(told, pair, i, j):
    """Point 19 word for word."""
    m, scale, shapes, cuts = told
    frame, rule = Frame(m), Rule(*told)
    k, l, (turn, flip, place) = pair
    great = (turn, flip, scaled(frame, place, scale))
    one = cuts[k][i]
    other = (cuts[l][j][0], joined(frame, cuts[l][j][1], great))
    if side_between(frame, corners(rule, one), corners(rule, other)) is None:
        return None
    return (one[0], other[0], joined(frame, other[1], back(frame, one[1])))


def floor_pairs(rule, kind, n):
    """Rows (address, other address, piece, other piece), each two neighbours of a floor once."""
    frame = rule.frame()
    laid = [(address, piece, corners(rule, piece)) for address, piece in floor_of(rule, kind, n)]
    return [(one[0], other[0], one[1], other[1]) for one, other in itertools.combinations(laid, 2)
            if side_between(frame, one[2], other[2]) is not None]


@lru_cache(maxsize=None)
def few_relations():
    """Rows (told, rule): each rule whose relations are told, as written and redrawn, made once for all tests."""
    written = [(name, full(name)) for name in FULL if name not in TOO_MANY]
    return [(told, Rule(*told)) for name, first in written for told in (first, redrawn(source(name), first))]


class SidesTest(FloorsTest):
    def each_kind(self, most=40, deepest=3):
        """Each rule as written, redrawn, and with parts turned and mirrored anew, with floors of its kinds."""
        for told, draw in self.each_way():
            rule = Rule(*told)
            for kind in range(len(told[2])):
                for n in range(deepest + 1):
                    if how_many(told, kind, n) <= most:
                        yield told, draw, rule, kind, n

    def each_way(self):
        for told, draw in self.each_rule():
            yield told, draw
            yield mixed(draw, told), draw

    def few_relations(self):
        draw = source(self.id())
        for told, rule in few_relations():
            yield told, draw, rule


class NeighboursTest(SidesTest):
    def test_as_written(self):
        rule = Rule(*full("square in four"))
        # The parts come around to the left from the one at 0.
        self.assertEqual(neighbours(rule, 0, ()), [])
        self.assertEqual(neighbours(rule, 0, (0,)), [(1,), (3,)])
        self.assertEqual(neighbours(rule, 0, (1,)), [(0,), (2,)])
        self.assertEqual(neighbours(rule, 0, (2,)), [(1,), (3,)])
        self.assertEqual(neighbours(rule, 0, (3,)), [(0,), (2,)])
        self.assertEqual(neighbours(rule, 0, (0, 0)), [(0, 1), (0, 3)])
        self.assertEqual(neighbours(rule, 0, (0, 2)), [(0, 1), (0, 3), (1, 3), (3, 1)])
        self.assertEqual(neighbours(rule, 0, (1, 0)), [(0, 1), (1, 1), (1, 3)])
        self.assertEqual(neighbours(rule, 0, (2,) * 12), [(2,) * 11 + (1,), (2,) * 11 + (3,)])
        self.assertEqual(neighbours(rule, 0, (0,) + (2,) * 11), [
            (0,) + (2,) * 10 + (1,), (0,) + (2,) * 10 + (3,), (1,) + (3,) * 11, (3,) + (1,) * 11])

    def test_touching_in_a_point_is_not_beside(self):
        rule = Rule(*full("triangle in four"))
        self.assertEqual(neighbours(rule, 0, (0,)), [(3,)])
        self.assertEqual(neighbours(rule, 0, (3,)), [(0,), (1,), (2,)])

    def test_sides_that_meet_in_part(self):
        rule = Rule(*full("offset squares"))
        # Two squares below, a half, a square and a half above.
        self.assertEqual(neighbours(rule, 1, (0,)), [(1,), (2,), (3,)])
        self.assertEqual(neighbours(rule, 1, (1,)), [(0,), (3,), (4,)])
        self.assertEqual(neighbours(rule, 1, (3,)), [(0,), (1,), (2,), (4,)])

    def test_an_irrational_one_as_written(self):
        rule = Rule(*full("golden in three and two"))
        # The first two parts have just a corner in common.
        self.assertEqual([neighbours(rule, 0, (number,)) for number in range(3)], [[(2,)], [(2,)], [(0,), (1,)]])
        self.assertEqual(neighbours(rule, 1, (0,)), [(1,)])

    def test_unlike_kinds_with_like_moves(self):
        # The shapes lie beside one another as they are told, so their moves are the same.
        rule = Rule(*full("squares side by side"))
        self.assertEqual([neighbours(rule, 0, (number,)) for number in range(4)],
                         [[(1,), (2,)], [(0,), (3,)], [(0,), (3,)], [(1,), (2,)]])
        self.assertIn(((0, 1, STAY), ("cut", 0, 0, 1)), relations(rule))
        self.assertEqual(led(rule, (0, 0, (0, 0, off(0, 1))), 2, 0), (0, 0, (0, 0, off(0, 1))))

    def test_none_for_the_whole(self):
        for told, draw in self.each_way():
            for kind in range(len(told[2])):
                self.assertEqual(neighbours(Rule(*told), kind, ()), [])

    def test_alone_however_often_grown(self):
        rule = Rule(*full("slow half squares"))
        for n in range(4):
            self.assertEqual(neighbours(rule, 0, (0,) * n), [])
        self.assertEqual(neighbours(rule, 0, (0, 0, 0, 0)), [(0, 0, 0, 1)])

    def floor_holds(self, rule, kind, n):
        due = {address: [] for address, piece in floor_of(rule, kind, n)}
        for one, other, *rest in floor_pairs(rule, kind, n):
            due[one].append(other)
            due[other].append(one)
        for address in due:
            self.assertEqual(neighbours(rule, kind, address), sorted(due[address]))

    def test_against_floors(self):
        seen = set()
        for told, draw, rule, kind, n in self.each_kind(most=50):
            self.floor_holds(rule, kind, n)
            seen.update((told[0], piece[1][1], n) for address, piece in floor_of(rule, kind, n))
        self.assertEqual(seen & {(m, flip, n) for m in SIZES for flip in (0, 1) for n in (1, 2, 3)},
                         {(m, flip, n) for m in SIZES for flip in (0, 1) for n in (1, 2, 3)})

    def test_against_great_floors(self):
        for name, kind, n in (("octagonal", 1, 3), ("squares 300 thrice", 3, 2), ("golden in two and three", 1, 4),
                              ("right triangle in three", 0, 4), ("triangle in four", 0, 3)):
            draw = source(f"{self.id()} {name}")
            self.floor_holds(Rule(*mixed(draw, redrawn(draw, full(name)))), kind, n)

    def test_against_places_in_the_plane(self):
        for told, draw in self.each_rule():
            for kind in range(len(told[2])):
                n = 2 if how_many(told, kind, 2) <= 16 else 1
                rule, floor = Rule(*told), plane_floor(told, kind, n)
                for address, own, places in floor:
                    due = [other for other, other_kind, other_places in floor
                           if other != address and plane_side_between(places, other_places) is not None]
                    self.assertEqual(neighbours(rule, kind, address), due)

    def test_the_form_of_lists(self):
        for told, draw, rule, kind, n in self.each_kind(most=20):
            for address, piece in floor_of(rule, kind, n):
                found = neighbours(rule, kind, address)
                self.assertIsInstance(found, list)
                self.assertEqual(found, sorted(set(found)))
                for other in found:
                    self.assertTrue(isinstance(other, tuple) and len(other) == n)
                    self.assertTrue(all(is_whole(number) for number in other))

    def long_addresses(self):
        for told, draw in self.each_way():
            rule, kind = Rule(*told), draw.randrange(len(told[2]))
            for n in (4, 5, 7, 10, 12):
                yield told, rule, kind, some_address(draw, told, kind, n)

    def test_long_addresses_have_each_other(self):
        for told, rule, kind, address in self.long_addresses():
            for other in neighbours(rule, kind, address):
                self.assertEqual(len(other), len(address))
                self.assertIn(address, neighbours(rule, kind, other))
                one_shape, other_shape = [corners(rule, piece_at(rule, kind, found)) for found in (address, other)]
                self.assertIsNotNone(side_between(rule.frame(), one_shape, other_shape))

    def test_long_addresses_are_closed_around(self):
        # What is not beside a neighbour lies on the border of the whole floor: so none is left out.
        for told, rule, kind, address in self.long_addresses():
            m, frame = told[0], rule.frame()
            great = frame.power(told[1], len(address))
            whole = [in_plane(m, scaled(frame, corner, great)) for corner in told[2][kind]]
            places = self.places(rule, kind, address)
            around = [self.places(rule, kind, other) for other in neighbours(rule, kind, address)]
            due = sum(plane_far(one, other) for one, other in zip(places, places[1:] + places[:1]))
            found = sum(plane_shared(places, other) for other in around + [whole])
            self.assertLess(abs(found - due), NEAR)

    def places(self, rule, kind, address):
        return [in_plane(rule.frame().size(), corner) for corner in corners(rule, piece_at(rule, kind, address))]

    def test_where_relations_are_too_many(self):
        # Neighbours are told all the same.
        for name in TOO_MANY:
            told = full(name)
            rule = Rule(*told)
            self.refused("TooMany", relations, rule)
            kind = len(told[2]) - 1
            self.floor_holds(rule, kind, 2)
            draw = source(f"{self.id()} {name}")
            for _ in range(20):
                address = some_address(draw, told, kind, 12)
                for other in neighbours(rule, kind, address):
                    self.assertIn(address, neighbours(rule, kind, other))

    def test_asked_again(self):
        for told, draw in self.each_rule(anew=0):
            rule = Rule(*told)
            asked = [(kind, some_address(draw, told, kind, n)) for n in (1, 2, 3, 2, 12)
                     for kind in range(len(told[2]))]
            # Each one of a rule that was asked nothing before.
            due = [neighbours(Rule(*told), kind, address) for kind, address in asked]
            for _ in range(2):
                for (kind, address), found in zip(asked, due):
                    self.assertEqual(neighbours(rule, kind, address), found)
            for (kind, address), found in zip(reversed(asked), reversed(due)):
                first = neighbours(rule, kind, address)
                self.assertIsNot(neighbours(rule, kind, address), first)
                first.append(None)
                first.reverse()
                neighbours(rule, kind, address).clear()
                self.assertEqual(neighbours(rule, kind, address), found)

    def test_rules_side_by_side(self):
        # The same pairs of pieces mean other things in other rules.
        names = ("square in four", "square in nine", "squares one way", "offset squares", "domino in four")
        alone = {name: neighbours(Rule(*full(name)), 0, (1, 1, 2)) if name != "offset squares"
                 else neighbours(Rule(*full(name)), 0, (1, 0, 2)) for name in names}
        for one, other in itertools.permutations(names, 2):
            rules = {name: Rule(*full(name)) for name in (one, other)}
            for name in (one, other, one):
                address = (1, 0, 2) if name == "offset squares" else (1, 1, 2)
                self.assertEqual(neighbours(rules[name], 0, address), alone[name])


class RelationTest(SidesTest):
    def test_as_written(self):
        rule = Rule(*full("square in four"))
        self.assertEqual(relation(rule, (0, STAY), (0, (0, 0, off(1, 0)))), (0, 0, (0, 0, off(1, 0))))
        self.assertEqual(relation(rule, (0, (0, 0, off(5, 7))), (0, (0, 0, off(5, 8)))), (0, 0, (0, 0, off(0, 1))))
        # Seen from one turned to the left, what lies above lies to the right.
        self.assertEqual(relation(rule, (0, (1, 0, off(0, 0))), (0, (0, 0, off(0, 1)))), (0, 0, (3, 0, off(1, 0))))
        self.assertEqual(relation(rule, (0, (0, 1, off(0, 0))), (0, (1, 0, off(2, 3)))), (0, 0, (3, 1, off(2, -3))))
        golden = Rule(*full("golden in three and two"))
        self.assertEqual(relation(golden, (0, STAY), (1, (4, 0, ((1, 1), (0, 0))))),
                         (0, 1, (4, 0, ((1, 1), (0, 0)))))
        self.assertEqual(relation(golden, (1, (4, 0, ((1, 1), (0, 0)))), (0, STAY)),
                         (1, 0, (6, 0, ((0, 0), (1, 1)))))

    def test_the_move_leads_to_the_other(self):
        for told, draw in self.each_rule(anew=0):
            m, kinds = told[0], len(told[2])
            rule, frame = Rule(*told), Frame(m)
            for _ in range(20):
                one = (draw.randrange(kinds), some_move(draw, m))
                other = (draw.randrange(kinds), some_move(draw, m))
                found = relation(rule, one, other)
                self.assertTrue(isinstance(found, tuple) and len(found) == 3)
                self.assertEqual(found[:2], (one[0], other[0]))
                self.assertTrue(is_move(m, found[2]))
                self.assertEqual(joined(frame, found[2], one[1]), other[1])
                # Point by point, too.
                for point in (ORIGIN, off(1, 0), off(0, 1)):
                    self.assertEqual(moved(frame, one[1], moved(frame, found[2], point)), moved(frame, other[1], point))
                self.assertEqual(relation(rule, other, one), turned_about(m, found))

    def test_of_a_piece_and_itself(self):
        for told, draw in self.each_rule():
            for kind in range(len(told[2])):
                piece = (kind, some_move(draw, told[0]))
                self.assertEqual(relation(Rule(*told), piece, piece), (kind, kind, STAY))
                self.assertEqual(relation(Rule(*told), (kind, STAY), piece), (kind, kind, piece[1]))

    def test_both_moved_alike(self):
        for told, draw in self.each_rule(anew=0):
            m, rule, frame = told[0], Rule(*told), Frame(told[0])
            kind = draw.randrange(len(told[2]))
            one, other, far = [some_move(draw, m) for _ in range(3)]
            self.assertEqual(relation(rule, (kind, one), (0, other)),
                             relation(rule, (kind, joined(frame, one, far)), (0, joined(frame, other, far))))


class LedTest(SidesTest):
    def test_as_written(self):
        rule = Rule(*full("square in four"))
        right = (0, 0, (0, 0, off(1, 0)))
        self.assertEqual(led(rule, right, 1, 0), right)
        self.assertEqual(led(rule, right, 2, 3), right)
        for i, j in itertools.product(range(4), repeat=2):
            if (i, j) not in ((1, 0), (2, 3)):
                self.assertIsNone(led(rule, right, i, j))
        turned = Rule(*full("squares with 120 relations"))
        # The first part of the kind 0 and its last one but one.
        above = (0, 1, (0, 0, off(-1, 0)))
        self.assertIn((above, ("cut", 0, 0, 2)), relations(turned))
        self.assertEqual(led(turned, above, 0, 1), (0, 1, (0, 0, off(0, -1))))
        self.assertIsNone(led(turned, above, 1, 0))

    def test_against_its_words(self):
        seen = set()
        for told, draw in self.each_way():
            rule = Rule(*told)
            for pair in draw.sample(self.some_relations(told, draw), 2):
                for i in range(len(told[3][pair[0]])):
                    for j in range(len(told[3][pair[1]])):
                        found = led(rule, pair, i, j)
                        self.assertEqual(found, due_led(told, pair, i, j))
                        seen.add((told[0], found is None))
        self.assertEqual(len(seen), 10)

    def some_relations(self, told, draw):
        """Those of a kind's cut, one led from each of them, and one led from that."""
        rule = Rule(*told)
        found = []
        for kind, cut in enumerate(told[3]):
            found += [relation(rule, one, other) for *rest, one, other in floor_pairs(rule, kind, 1)]
        for _ in range(2):
            found += [due for pair in found for due in [self.some_led(told, draw, pair)] if due is not None]
        return found + [turned_about(told[0], pair) for pair in found]

    def some_led(self, told, draw, pair):
        return due_led(told, pair, draw.randrange(len(told[3][pair[0]])), draw.randrange(len(told[3][pair[1]])))

    def test_turned_about(self):
        for told, draw in self.each_way():
            rule, m = Rule(*told), told[0]
            for pair in draw.sample(self.some_relations(told, draw), 2):
                about = turned_about(m, pair)
                for i in range(len(told[3][pair[0]])):
                    for j in range(len(told[3][pair[1]])):
                        found = led(rule, pair, i, j)
                        self.assertEqual(led(rule, about, j, i), found and turned_about(m, found))

    def test_of_pieces_of_floors(self):
        # Where two neighbours of a floor are cut, their parts stand so in the floor grown once more.
        for told, draw, rule, kind, n in self.each_kind(most=8, deepest=2):
            for one, other, piece, beside in floor_pairs(rule, kind, n):
                pair = relation(rule, piece, beside)
                i, j = draw.randrange(len(told[3][pair[0]])), draw.randrange(len(told[3][pair[1]]))
                part, other_part = piece_at(rule, kind, one + (i,)), piece_at(rule, kind, other + (j,))
                due = relation(rule, part, other_part) if other + (j,) in neighbours(rule, kind, one + (i,)) else None
                self.assertEqual(led(rule, pair, i, j), due)

    def test_numbers_that_are_of_no_part(self):
        # There is no such part, so none that is a neighbour.
        for told, draw in self.each_rule(anew=0):
            rule = Rule(*told)
            pair = self.some_relations(told, draw)[0]
            for i, j in itertools.product((-1, 0, 12, 13, 99), repeat=2):
                if (i, j) != (0, 0):
                    self.assertIsNone(led(rule, pair, i, j))

    def test_asked_again(self):
        for told, draw in self.each_rule(anew=0):
            rule = Rule(*told)
            for pair in draw.sample(self.some_relations(told, draw), 2):
                rows = [(pair, i, j) for i in range(len(told[3][pair[0]])) for j in range(len(told[3][pair[1]]))]
                due = [led(rule, *row) for row in rows]
                self.assertEqual([led(rule, *row) for row in reversed(rows)], due[::-1])


class RelationsTest(SidesTest):
    def test_as_written(self):
        rule = Rule(*full("square in four"))
        self.assertEqual(relations(rule), [
            ((0, 0, (0, 0, off(1, 0))), ("cut", 0, 0, 1)), ((0, 0, (0, 0, off(0, 1))), ("cut", 0, 0, 3)),
            ((0, 0, (0, 0, off(-1, 0))), ("cut", 0, 1, 0)), ((0, 0, (0, 0, off(0, -1))), ("cut", 0, 2, 1))])
        rule = Rule(*full("slow half squares"))
        self.assertEqual([reason for pair, reason in relations(rule)],
                         [("cut", 3, 0, 1), ("cut", 3, 1, 0), ("led", 0, 0, 1)])
        self.assertEqual([pair for pair, reason in relations(rule)], [
            (3, 3, (2, 0, ORIGIN)), (3, 3, (6, 0, ORIGIN)), (3, 3, (4, 0, off(0, 4)))])

    def test_reasons_as_written(self):
        rule = Rule(*full("golden in three and two"))
        self.assertEqual([reason for pair, reason in relations(rule)], [
            ("cut", 0, 0, 2), ("cut", 0, 1, 2), ("cut", 0, 2, 0), ("cut", 0, 2, 1), ("led", 0, 1, 1), ("led", 1, 0, 0),
            ("led", 1, 1, 1), ("led", 2, 1, 1), ("led", 3, 0, 0), ("led", 3, 1, 1), ("led", 4, 0, 0), ("led", 4, 0, 1),
            ("led", 4, 2, 0), ("led", 10, 2, 2), ("led", 13, 0, 0), ("led", 14, 0, 0), ("led", 14, 0, 1),
            ("led", 14, 1, 0), ("led", 15, 1, 1), ("led", 18, 1, 1)])

    def test_against_places_in_the_plane(self):
        seen = set()
        for name in FULL:
            draw = source(f"{self.id()} {name}")
            self.in_plane_holds(redrawn(draw, full(name)))
            if name not in TOO_MANY:
                seen.add(full(name)[0])
        self.assertEqual(seen, set(SIZES))

    def in_plane_holds(self, told):
        due = plane_relations(told, MOST_RELATIONS)
        if due is None:
            self.refused("TooMany", relations, Rule(*told))
            return False
        found = [(k, l, plane_key(plane_three(told[0], move)), reason)
                 for (k, l, move), reason in relations(Rule(*told))]
        self.assertEqual(found, due)
        return True

    def test_against_places_with_parts_turned_and_mirrored(self):
        told_of = set()
        for name in ("half square in four", "square in four", "triangle in four", "triangles of two sizes",
                     "half square in two", "octagonal", "golden in three and two", "golden in two and three",
                     "pentagon in three", "hexagon in six by root 3", "rectangle in three"):
            draw = source(f"{self.id()} {name}")
            told = mixed(draw, full(name))
            if self.in_plane_holds(told):
                told_of.add(told[0])
        self.assertEqual(told_of, set(SIZES))

    def test_the_form_of_rows(self):
        for told, draw, rule in self.few_relations():
            rows = relations(rule)
            self.assertIsInstance(rows, list)
            self.assertEqual(len({pair for pair, reason in rows}), len(rows))
            for row in rows:
                self.assertTrue(isinstance(row, tuple) and len(row) == 2)
                pair, reason = row
                self.assertTrue(isinstance(pair, tuple) and len(pair) == 3)
                self.assertTrue(all(is_whole(kind) and 0 <= kind < len(told[2]) for kind in pair[:2]))
                self.assertTrue(is_move(told[0], pair[2]))
                self.assertTrue(isinstance(reason, tuple) and len(reason) == 4)
                self.assertIn(reason[0], ("cut", "led"))
                self.assertTrue(all(is_whole(number) for number in reason[1:]))

    def test_reasons_hold(self):
        for told, draw, rule in self.few_relations():
            rows = relations(rule)
            for place, (pair, (word, number, i, j)) in enumerate(rows):
                if word == "cut":
                    self.assertEqual(relation(rule, told[3][number][i], told[3][number][j]), pair)
                else:
                    self.assertLess(number, place)
                    self.assertEqual(led(rule, rows[number][0], i, j), pair)
            # First those of cuts, each sort in the order in which it was found.
            self.assertEqual([reason for pair, reason in rows], sorted(reason for pair, reason in rows))

    def test_each_is_there_turned_about(self):
        for told, draw, rule in self.few_relations():
            found = [pair for pair, reason in relations(rule)]
            self.assertEqual(sorted(turned_about(told[0], pair) for pair in found), sorted(found))

    def test_nothing_is_led_out_of_the_list(self):
        for told, draw, rule in self.few_relations():
            found = [pair for pair, reason in relations(rule)]
            for pair in draw.sample(found, 2):
                for i in range(len(told[3][pair[0]])):
                    for j in range(len(told[3][pair[1]])):
                        self.assertIn(led(rule, pair, i, j), found + [None])

    def test_those_of_floors(self):
        for told, draw, rule in self.few_relations():
            found = [pair for pair, reason in relations(rule)]
            for kind in range(len(told[2])):
                for n in range(4):
                    if how_many(told, kind, n) <= 40:
                        for *rest, piece, beside in floor_pairs(rule, kind, n):
                            self.assertIn(relation(rule, piece, beside), found)
                            self.assertIn(relation(rule, beside, piece), found)

    def test_each_comes_in_a_floor(self):
        # Led so many times, each comes in a floor grown once more than that: its address is told by the reasons.
        for told, draw, rule in self.few_relations():
            rows = relations(rule)
            for place in draw.sample(range(len(rows)), min(8, len(rows))):
                pair, reason = rows[place]
                one, other = (), ()
                while reason[0] == "led":
                    one, other = reason[2:3] + one, reason[3:] + other
                    reason = rows[reason[1]][1]
                kind, one, other = reason[1], reason[2:3] + one, reason[3:] + other
                if len(one) <= 12:
                    self.assertEqual(relation(rule, piece_at(rule, kind, one), piece_at(rule, kind, other)), pair)
                    self.assertIn(other, neighbours(rule, kind, one))

    def test_asked_again(self):
        for told, draw, known in self.few_relations():
            rule, due = Rule(*told), copy.deepcopy(relations(known))
            first = relations(rule)
            self.assertEqual(first, due)
            second = relations(rule)
            self.assertIsNot(second, first)
            first.reverse()
            first.append(None)
            second.clear()
            side_on_side(rule)
            neighbours(rule, 0, (0, 0, 0))
            led(rule, due[-1][0], 0, 0)
            self.assertEqual(relations(rule), due)

    def test_behind_other_questions(self):
        for told, draw, known in self.few_relations():
            rule, due = Rule(*told), relations(known)
            for pair, reason in reversed(due):
                led(rule, pair, 0, 0)
            for kind in range(len(told[2])):
                neighbours(rule, kind, some_address(draw, told, kind, 12))
            self.assertEqual(relations(rule), due)

    def test_what_was_told_stays(self):
        rule = Rule(*full("octagonal"))
        first = relations(rule)
        before = copy.deepcopy(first)
        neighbours(rule, 0, (0,) * 12)
        relations(rule).clear()
        self.assertEqual(first, before)

    def test_just_120(self):
        rows = relations(Rule(*full("squares with 120 relations")))
        self.assertEqual(len(rows), 120)
        self.assertEqual(len({pair for pair, reason in rows}), 120)
        self.assertEqual(len(relations(Rule(*full("squares 300 thrice")))), 116)

    def test_one_more(self):
        rule = Rule(*full("squares with 121 relations"))
        for _ in range(2):
            self.refused("TooMany", relations, rule)
            self.refused("TooMany", side_on_side, rule)
        # There are not many more of them: with the same parts in another order it is refused, too.
        self.assertEqual(len(plane_relations(full("squares with 121 relations"), 121)), 121)
        draw = source(self.id())
        for _ in range(3):
            self.refused("TooMany", relations, Rule(*redrawn(draw, full("squares with 121 relations"))))

    def test_without_end(self):
        for told in (full("golden strips"), redrawn(source(self.id()), full("golden strips"))):
            rule = Rule(*told)
            self.refused("TooMany", relations, rule)
            self.refused("TooMany", relations, rule)
            self.assertIsNone(plane_relations(told, 200))


class SideOnSideTest(SidesTest):
    def test_of_each_rule(self):
        for name in FULL:
            draw = source(f"{self.id()} {name}")
            for told in (full(name), redrawn(draw, full(name))):
                rule = Rule(*told)
                if name in TOO_MANY:
                    self.refused("TooMany", side_on_side, rule)
                else:
                    self.assertIs(side_on_side(rule), name in SIDE_ON_SIDE, name)

    def wholes(self, told, rows):
        """Of how many of both pieces the sides between are whole sides, in the plane."""
        m, shapes, found = told[0], told[2], set()
        for (k, l, move), reason in rows:
            places = [in_plane(m, corner) for corner in shapes[k]]
            others = [in_plane(m, moved(Frame(m), move, corner)) for corner in shapes[l]]
            ends = plane_side_between(places, others)
            length = plane_far(*ends)
            found.add(sum(any(abs(plane_far(one, other) - length) < NEAR and plane_shared([one, other], ends) > NEAR
                              for one, other in zip(shape, shape[1:] + shape[:1])) for shape in (places, others)))
        return found

    def test_against_the_plane(self):
        for told, draw, rule in self.few_relations():
            self.assertIs(side_on_side(rule), self.wholes(told, relations(rule)) == {2})

    def test_whole_for_just_one(self):
        for name in ("triangles of two sizes", "squares one way", "squares 300"):
            rule = Rule(*full(name))
            self.assertEqual(self.wholes(full(name), relations(rule)), {1, 2})
            self.assertIs(side_on_side(rule), False)

    def test_whole_for_neither(self):
        for name in ("offset squares", "domino in four", "octagonal", "golden in three and two"):
            rule = Rule(*full(name))
            self.assertIn(0, self.wholes(full(name), relations(rule)))
            self.assertIs(side_on_side(rule), False)

    def test_where_only_what_is_led_is_not(self):
        # Two squares, alike but for their cuts: one into squares, the other one into halves of them.
        told = read("""frame 4
scale 2
shape 0:0 2:0 2:2 0:2
shape 0:0 2:0 2:2 0:2
shape 0:0 1:0 1:2 0:2
cut
part 0 0 0 0:0
part 0 0 0 2:0
part 0 0 0 0:2
part 0 0 0 2:2
cut
part 2 0 0 0:0
part 2 0 0 1:0
part 2 0 0 2:0
part 2 0 0 3:0
part 2 0 0 0:2
part 2 0 0 1:2
part 2 0 0 2:2
part 2 0 0 3:2
cut
part 0 0 0 0:0
part 1 0 0 0:2""")
        rule = Rule(*told)
        rows = relations(rule)
        self.assertEqual(self.wholes(told, [row for row in rows if row[1][0] == "cut"]), {2})
        self.assertEqual(self.wholes(told, rows), {1, 2})
        self.assertIs(side_on_side(rule), False)

    def test_told_alike_again(self):
        for name in ("square in four", "offset squares"):
            rule = Rule(*full(name))
            due = side_on_side(Rule(*full(name)))
            relations(rule).clear()
            self.assertIs(side_on_side(rule), due)
            self.assertIs(side_on_side(rule), due)


class RefusedTest(SidesTest):
    def calls(self, kind, address):
        """Each function, with what is handed to it; the kind stands wherever one is taken."""
        piece, pair = (kind, STAY), (kind, kind, (0, 0, off(1, 0)))
        return [(neighbours, kind, address), (relation, piece, piece), (relation, (0, STAY), piece),
                (relation, piece, (0, STAY)), (led, pair, 0, 0)]

    def test_no_kind(self):
        for told, draw in self.each_rule(anew=0):
            rule, count = Rule(*told), len(told[2])
            for kind in (-1, -count, count, count + 1, 10 ** 59, -10 ** 59):
                for address in ((), (0,)):
                    for call, *handed in self.calls(kind, address):
                        self.refused("NoKind", call, rule, *handed)

    def test_no_kind_goes_ahead_of_no_address(self):
        for told, draw in self.each_rule(anew=0):
            for address in ((99,), (-1,), (0,) * 13, (0,) * 11 + (99,)):
                self.refused("NoKind", neighbours, Rule(*told), len(told[2]), address)
                self.refused("NoKind", neighbours, Rule(*told), -1, address)

    def test_more_than_twelve_numbers(self):
        for told, draw in self.each_rule(anew=0):
            for n in (13, 14, 60):
                self.refused("NoAddress", neighbours, Rule(*told), 0, some_address(draw, told, 0, n))
            self.assertIsInstance(neighbours(Rule(*told), 0, some_address(draw, told, 0, 12)), list)

    def test_a_number_that_is_none_of_a_part(self):
        for told, draw in self.each_rule():
            rule = Rule(*told)
            for kind in range(len(told[2])):
                for n in (1, 2, 3, 12):
                    address = some_address(draw, told, kind, n)
                    for place in {0, n // 2, n - 1}:
                        parts = len(told[3][piece_at(rule, kind, address[:place])[0]])
                        for number in (-1, -parts, parts, parts + 1, 10 ** 59):
                            wrong = address[:place] + (number,) + address[place + 1:]
                            self.refused("NoAddress", neighbours, rule, kind, wrong)

    def test_no_address_where_relations_are_too_many(self):
        for name in TOO_MANY:
            rule = Rule(*full(name))
            self.refused("TooMany", relations, rule)
            self.refused("NoAddress", neighbours, rule, 0, (99,))
            self.refused("NoKind", neighbours, rule, 4, (99,))

    def test_no_fill_goes_ahead_of_all(self):
        for told, due in lacking_rules():
            rule = Rule(*told)
            for kind in (0, len(told[2]) - 1, -1, len(told[2]), 10 ** 59):
                for address in ((), (0,), (99,), (-1, 0), (0,) * 13):
                    for call, *handed in self.calls(kind, address) + [(relations,), (side_on_side,)]:
                        self.assertEqual(self.refused("NoFill", call, rule, *handed).lack, due)

    def test_no_fill_goes_ahead_of_too_many(self):
        for name in TOO_MANY:
            m, scale, shapes, cuts = full(name)
            rule = Rule(m, scale, shapes, cuts[:-1] + [cuts[-1][:-1]])
            for call in (relations, side_on_side):
                taken = self.refused("NoFill", call, rule)
                self.assertEqual(taken.lack, lack(rule))
                self.assertEqual(taken.lack[:2], ("gap", len(shapes) - 1))

    def test_no_fill_where_only_another_kind_lacks(self):
        m, scale, shapes, cuts = full("hexagon in six")
        rule = Rule(m, scale, shapes, [cuts[0][:5], cuts[1]])
        for call, *handed in self.calls(1, (0, 0)) + [(relations,), (side_on_side,)]:
            self.assertEqual(self.refused("NoFill", call, rule, *handed).lack, ("gap", 0, (4, 0)))

    def test_refusals_change_nothing(self):
        for told, draw in self.each_rule(anew=0):
            rule = Rule(*told)
            address = some_address(draw, told, 0, 3)
            due = neighbours(Rule(*told), 0, address)
            self.refused("NoKind", neighbours, rule, 9, address)
            self.refused("NoAddress", neighbours, rule, 0, (99,))
            self.refused("NoKind", relation, rule, (9, STAY), (0, STAY))
            self.assertEqual(neighbours(rule, 0, address), due)
            self.assertEqual((rule.shapes(), rule.cuts()), (told[2], told[3]))


if __name__ == "__main__":
    unittest.main()
