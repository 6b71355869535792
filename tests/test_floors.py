import copy
import itertools
import unittest

from inflate.floors import floor_of, holders, piece_at
from inflate.frames import Frame, plus
from inflate.looks import corners, greater, lack
from inflate.points import added, joined, scaled
from inflate.rules import Rule
from inflate.shapes import are_apart, twice, where
from tests.helper import (FULL, MOST, FloorsTest, full, how_many, in_plane, is_move, is_whole, lacking_rules,
                          plane_floor, plane_where, same_place, some_address, some_small, source)

ORIGIN = ((0, 0), (0, 0))
STAY = (0, 0, ORIGIN)
FAR = ((10 ** 40, 0), (-10 ** 40, 0))


def off(x, y):
    return ((x, 0), (y, 0))


def due_piece(told, kind, address):
    """Point 15 word for word: part by part, the offs multiplied by powers of the scale."""
    m, scale, shapes, cuts = told
    frame = Frame(m)
    if not address:
        return (kind, STAY)
    part_kind, (turn, flip, place) = cuts[kind][address[0]]
    last_kind, move = due_piece(told, part_kind, address[1:])
    great = (turn, flip, scaled(frame, place, frame.power(scale, len(address) - 1)))
    return (last_kind, joined(frame, move, great))


class FloorOfTest(FloorsTest):
    def test_as_written(self):
        m, scale, shapes, cuts = full("square in four")
        rule = Rule(m, scale, shapes, [[(0, (0, 0, off(0, 0))), (0, (1, 0, off(2, 0))), (0, (0, 1, off(0, 2))),
                                        (0, (2, 1, off(2, 1)))]])
        self.assertEqual(floor_of(rule, 0, 0), [((), (0, STAY))])
        self.assertEqual(floor_of(rule, 0, 1), [
            ((0,), (0, (0, 0, off(0, 0)))), ((1,), (0, (1, 0, off(2, 0)))), ((2,), (0, (0, 1, off(0, 2)))),
            ((3,), (0, (2, 1, off(2, 1))))])
        self.assertEqual(floor_of(rule, 0, 2), [
            ((0, 0), (0, (0, 0, off(0, 0)))), ((0, 1), (0, (1, 0, off(2, 0)))),
            ((0, 2), (0, (0, 1, off(0, 2)))), ((0, 3), (0, (2, 1, off(2, 1)))),
            ((1, 0), (0, (1, 0, off(4, 0)))), ((1, 1), (0, (2, 0, off(4, 2)))),
            ((1, 2), (0, (1, 1, off(2, 0)))), ((1, 3), (0, (3, 1, off(3, 2)))),
            ((2, 0), (0, (0, 1, off(0, 4)))), ((2, 1), (0, (3, 1, off(2, 4)))),
            ((2, 2), (0, (0, 0, off(0, 2)))), ((2, 3), (0, (2, 0, off(2, 3)))),
            ((3, 0), (0, (2, 1, off(4, 2)))), ((3, 1), (0, (1, 1, off(2, 2)))),
            ((3, 2), (0, (2, 0, off(4, 4)))), ((3, 3), (0, (0, 0, off(2, 3))))])

    def test_an_irrational_one_as_written(self):
        rule = Rule(*full("golden in three and two"))
        self.assertEqual(floor_of(rule, 1, 1), [((0,), (0, STAY)), ((1,), (1, (4, 0, ((1, 1), (0, 0)))))])
        self.assertEqual(floor_of(rule, 1, 2), [
            ((0, 0), (0, STAY)), ((0, 1), (0, (3, 0, ((1, 1), (0, 0))))), ((0, 2), (1, (4, 0, ((1, 1), (0, 0))))),
            ((1, 0), (0, (4, 0, ((1, 2), (0, 0))))), ((1, 1), (1, (8, 0, ((0, 0), (1, 1)))))])

    def test_grown_none_times(self):
        for told, draw in self.each_rule():
            rule = Rule(*told)
            for kind in range(len(told[2])):
                self.assertEqual(floor_of(rule, kind, 0), [((), (kind, STAY))])

    def test_the_form_of_rows(self):
        for told, draw, rule, kind, n in self.each_floor():
            floor = floor_of(rule, kind, n)
            self.assertIsInstance(floor, list)
            self.assertEqual(len(floor), how_many(told, kind, n))
            for row in floor:
                self.assertTrue(isinstance(row, tuple) and len(row) == 2)
                address, piece = row
                self.assertTrue(isinstance(address, tuple) and len(address) == n)
                self.assertTrue(all(is_whole(number) for number in address))
                self.assertTrue(isinstance(piece, tuple) and len(piece) == 2)
                self.assertTrue(is_whole(piece[0]) and 0 <= piece[0] < len(told[2]))
                self.assertTrue(is_move(told[0], piece[1]))

    def test_addresses_rise_each_once(self):
        for told, draw, rule, kind, n in self.each_floor():
            addresses = [address for address, piece in floor_of(rule, kind, n)]
            self.assertEqual(addresses, sorted(set(addresses)))
            pieces = [piece for address, piece in floor_of(rule, kind, n)]
            self.assertEqual(len(set(pieces)), len(pieces))

    def test_pieces_as_point_15_has_them(self):
        for told, draw, rule, kind, n in self.each_floor(most=100):
            for address, piece in floor_of(rule, kind, n):
                self.assertEqual(piece, due_piece(told, kind, address))

    def test_pieces_lie_where_they_should(self):
        for told, draw, rule, kind, n in self.each_floor(most=60, deepest=4):
            floor, due = floor_of(rule, kind, n), plane_floor(told, kind, n)
            self.assertEqual(len(floor), len(due))
            for (address, piece), (due_address, due_kind, places) in zip(floor, due):
                self.assertEqual((address, piece[0]), (due_address, due_kind))
                for corner, place in zip(corners(rule, piece), places, strict=True):
                    self.assertTrue(same_place(in_plane(told[0], corner), place))

    def test_twices_add_up(self):
        for told, draw, rule, kind, n in self.each_floor():
            frame = rule.frame()
            total = (0, 0)
            for address, piece in floor_of(rule, kind, n):
                total = plus(total, twice(frame, corners(rule, piece)))
            due = frame.times(twice(frame, told[2][kind]), frame.power(told[1], 2 * n))
            self.assertEqual(total, due)

    def test_pieces_are_apart_and_inside(self):
        for told, draw, rule, kind, n in self.each_floor(most=30, deepest=4):
            frame = rule.frame()
            whole = [scaled(frame, corner, frame.power(told[1], n)) for corner in told[2][kind]]
            pieces = [corners(rule, piece) for address, piece in floor_of(rule, kind, n)]
            for shape in pieces:
                self.assertTrue(all(where(frame, whole, corner) >= 0 for corner in shape))
            for one, other in itertools.combinations(pieces, 2):
                self.assertIs(are_apart(frame, one, other), True)

    def test_grown_once_it_is_the_cut(self):
        for told, draw in self.each_rule():
            rule = Rule(*told)
            for kind, cut in enumerate(told[3]):
                self.assertEqual(floor_of(rule, kind, 1), [((number,), part) for number, part in enumerate(cut)])


class TooManyTest(FloorsTest):
    def test_just_300_pieces(self):
        for name, kind, n in (("squares 300", 2, 3), ("squares 300 thrice", 0, 5), ("squares 300 thrice", 1, 4),
                              ("squares 300 thrice", 3, 3)):
            rule = Rule(*full(name))
            self.assertEqual(len(floor_of(rule, kind, n)), 300)
            self.assertEqual(holders(rule, kind, n, ORIGIN), [(0,) * n])
            self.refused("TooMany", floor_of, rule, kind, n + 1)
            self.refused("TooMany", holders, rule, kind, n + 1, ORIGIN)

    def test_one_more(self):
        told = full("squares 301")
        self.assertEqual(how_many(told, 2, 3), 301)
        rule = Rule(*told)
        self.refused("TooMany", floor_of, rule, 2, 3)
        self.refused("TooMany", holders, rule, 2, 3, FAR)
        self.assertEqual(len(floor_of(rule, 2, 2)), 63)

    def test_each_number_of_growings(self):
        for told, draw in self.each_rule(anew=0):
            rule = Rule(*told)
            for kind in range(len(told[2])):
                for n in range(13):
                    pieces = how_many(told, kind, n)
                    if pieces > MOST:
                        self.refused("TooMany", floor_of, rule, kind, n)
                        self.refused("TooMany", holders, rule, kind, n, ORIGIN)
                    else:
                        self.assertEqual(len(floor_of(rule, kind, n)), pieces)

    def test_floors_that_grow_slowly(self):
        rule = Rule(*full("slow half squares"))
        for n in range(12):
            self.assertEqual(len(floor_of(rule, 0, n)), max(1, 2 ** (n - 3)))
        self.refused("TooMany", floor_of, rule, 0, 12)
        address, piece = floor_of(rule, 0, 11)[-1]
        self.assertEqual(address, (0, 0, 0) + (1,) * 8)
        self.assertEqual(piece, due_piece(full("slow half squares"), 0, address))

    def test_more_than_twelve_growings(self):
        for told, draw in self.each_rule(anew=0):
            self.refused("TooMany", floor_of, Rule(*told), 0, 13)
            self.refused("TooMany", floor_of, Rule(*told), 0, 20)


class PieceAtTest(FloorsTest):
    def test_as_written(self):
        rule = Rule(*full("half square in two"))
        self.assertEqual(piece_at(rule, 0, ()), (0, STAY))
        self.assertEqual(piece_at(rule, 0, (1,)), (0, (5, 0, ((0, 0), (1, 0)))))
        self.assertEqual(piece_at(rule, 0, (0, 0)), (0, (6, 0, ((-1, 0), (0, 1)))))
        self.assertEqual(piece_at(rule, 0, (1, 0)), (0, (0, 0, ((1, 0), (0, 0)))))

    def test_against_floors(self):
        for told, draw, rule, kind, n in self.each_floor():
            for address, piece in floor_of(rule, kind, n):
                self.assertEqual(piece_at(rule, kind, address), piece)

    def test_addresses_of_up_to_twelve_numbers(self):
        for told, draw in self.each_rule():
            rule = Rule(*told)
            for kind in range(len(told[2])):
                for n in range(13):
                    address = some_address(draw, told, kind, n)
                    piece = piece_at(rule, kind, address)
                    self.assertEqual(piece, due_piece(told, kind, address))
                    self.assertTrue(is_move(told[0], piece[1]))
                    # A piece lies in the kind's shape, made greater so many times.
                    frame = rule.frame()
                    whole = [scaled(frame, corner, frame.power(told[1], n)) for corner in told[2][kind]]
                    self.assertTrue(all(where(frame, whole, corner) >= 0 for corner in corners(rule, piece)))

    def test_more_than_twelve_numbers(self):
        for told, draw in self.each_rule(anew=0):
            rule = Rule(*told)
            for n in (13, 14, 60):
                self.refused("NoAddress", piece_at, rule, 0, some_address(draw, told, 0, n))

    def test_a_number_that_is_none_of_a_part(self):
        for told, draw in self.each_rule():
            rule = Rule(*told)
            for kind in range(len(told[2])):
                for n in (1, 2, 3, 12):
                    address = some_address(draw, told, kind, n)
                    for place in {0, n // 2, n - 1}:
                        parts = len(told[3][due_piece(told, kind, address[:place])[0]])
                        for number in (-1, -parts, parts, parts + 1, 10 ** 59, -10 ** 59):
                            wrong = address[:place] + (number,) + address[place + 1:]
                            self.refused("NoAddress", piece_at, rule, kind, wrong)

    def test_a_number_counts_the_parts_there(self):
        # The golden ones are cut into three and into two parts: 2 is a number of the first one's alone.
        rule = Rule(*full("golden in three and two"))
        for address in ((2,), (0, 2), (1, 2), (2, 0, 2), (0, 1, 2)):
            self.assertEqual(piece_at(rule, 0, address)[0], 1)
            self.refused("NoAddress", piece_at, rule, 1, (1,) + address[-1:])
        self.refused("NoAddress", piece_at, rule, 0, (2, 2))
        self.refused("NoAddress", piece_at, rule, 1, (2,))
        self.refused("NoAddress", piece_at, rule, 1, (1, 1, 1, 2))


class HoldersTest(FloorsTest):
    def held(self, rule, kind, n, point):
        m = rule.frame().size()
        place = in_plane(m, point)
        due = [address for address, piece in floor_of(rule, kind, n)
               if plane_where([in_plane(m, corner) for corner in corners(rule, piece)], place) >= 0]
        told = holders(rule, kind, n, point)
        self.assertIsInstance(told, list)
        self.assertEqual(told, due)
        self.assertEqual(told, sorted(set(told)))
        return told

    def test_as_written(self):
        rule = Rule(*full("square in four"))
        # The parts come around to the left from the one at 0.
        self.assertEqual(holders(rule, 0, 0, off(0, 0)), [()])
        self.assertEqual(holders(rule, 0, 0, off(1, 1)), [()])
        self.assertEqual(holders(rule, 0, 0, off(2, 1)), [])
        self.assertEqual(holders(rule, 0, 1, off(0, 0)), [(0,)])
        self.assertEqual(holders(rule, 0, 1, off(1, 0)), [(0,), (1,)])
        self.assertEqual(holders(rule, 0, 1, off(1, 1)), [(0,), (1,), (2,), (3,)])
        self.assertEqual(holders(rule, 0, 1, off(0, 1)), [(0,), (3,)])
        self.assertEqual(holders(rule, 0, 2, off(2, 2)), [(0, 2), (1, 3), (2, 0), (3, 1)])
        self.assertEqual(holders(rule, 0, 2, off(3, 0)), [(1, 0), (1, 1)])
        self.assertEqual(holders(rule, 0, 2, off(-1, 0)), [])
        self.assertEqual(holders(rule, 0, 2, off(5, 4)), [])

    def test_corners(self):
        for told, draw, rule, kind, n in self.each_floor(most=40, deepest=3):
            floor = floor_of(rule, kind, n)
            for address, piece in draw.sample(floor, min(3, len(floor))):
                for corner in corners(rule, piece):
                    self.assertIn(address, self.held(rule, kind, n, corner))

    def test_points_amid(self):
        # Drawn sixty times as great, each shape has a point amid its corners and one amid each side.
        for name in FULL:
            m, scale, shapes, cuts = full(name)
            draw, frame = source(f"{self.id()} {name}"), Frame(m)
            great = [[scaled(frame, corner, (60, 0)) for corner in shape] for shape in shapes]
            fine = [[(kind, (turn, flip, scaled(frame, place, (60, 0)))) for kind, (turn, flip, place) in cut]
                    for cut in cuts]
            rule = Rule(m, scale, great, fine)
            kind = draw.randrange(len(shapes))
            floor = floor_of(rule, kind, 2)
            for address, piece in draw.sample(floor, min(4, len(floor))):
                shape = corners(rule, piece)
                self.assertEqual(self.held(rule, kind, 2, self.middle(shape)), [address])
                for one, other in zip(shape, shape[1:] + shape[:1]):
                    self.assertIn(address, self.held(rule, kind, 2, self.middle([one, other])))

    def middle(self, points):
        total = ORIGIN
        for point in points:
            total = added(total, point)
        self.assertTrue(all(part % len(points) == 0 for number in total for part in number))
        return tuple(tuple(part // len(points) for part in number) for number in total)

    def test_points_far_away(self):
        for told, draw, rule, kind, n in self.each_floor(most=100, deepest=3, anew=0):
            self.assertEqual(holders(rule, kind, n, FAR), [])
            self.assertEqual(holders(rule, kind, n, off(-10 ** 59, 10 ** 59)), [])

    def test_any_points(self):
        for told, draw, rule, kind, n in self.each_floor(most=40, deepest=3, anew=0):
            for _ in range(2):
                self.held(rule, kind, n, (some_small(draw, told[0]), some_small(draw, told[0])))

    def test_points_in_the_whole_have_holders(self):
        for told, draw, rule, kind, n in self.each_floor(most=100, deepest=2, anew=0):
            frame = rule.frame()
            whole = [scaled(frame, corner, frame.power(told[1], n)) for corner in told[2][kind]]
            for x in range(-3, 7):
                for y in range(-3, 7):
                    found = holders(rule, kind, n, off(x, y))
                    self.assertEqual(bool(found), where(frame, whole, off(x, y)) >= 0)


class RefusedTest(FloorsTest):
    def calls(self, kind, address, n):
        """Each function that takes a kind, with what is handed to it."""
        return [(piece_at, kind, address), (floor_of, kind, n), (holders, kind, n, ORIGIN)]

    def test_no_kind(self):
        for told, draw in self.each_rule(anew=0):
            rule = Rule(*told)
            count = len(told[2])
            for kind in (-1, -count, count, count + 1, 10 ** 59, -10 ** 59):
                for call, *handed in self.calls(kind, (0,), 1) + self.calls(kind, (), 0):
                    self.refused("NoKind", call, rule, *handed)

    def test_no_kind_goes_ahead(self):
        for told, draw in self.each_rule(anew=0):
            rule = Rule(*told)
            for kind in (-1, len(told[2])):
                for address in ((99,), (-1,), (0,) * 13, (0,) * 11 + (99,)):
                    self.refused("NoKind", piece_at, rule, kind, address)
                for n in (9, 12, 13):
                    self.refused("NoKind", floor_of, rule, kind, n)
                    self.refused("NoKind", holders, rule, kind, n, ORIGIN)

    def test_no_fill_goes_ahead_of_all(self):
        for told, due in lacking_rules():
            rule = Rule(*told)
            self.assertEqual(lack(rule), due)
            for kind in (0, len(told[2]) - 1, -1, len(told[2]), 10 ** 59):
                for address, n in (((), 0), ((0,), 1), ((99,), 12), ((-1, 0), 9), ((0,) * 13, 13)):
                    for call, *handed in self.calls(kind, address, n):
                        self.assertEqual(self.refused("NoFill", call, rule, *handed).lack, due)

    def test_no_fill_where_only_another_kind_lacks(self):
        # The floors of the kind asked for have no lacking one in them.
        m, scale, shapes, cuts = full("hexagon in six")
        rule = Rule(m, scale, shapes, [cuts[0][:5], cuts[1]])
        for call, *handed in self.calls(1, (0, 0), 2):
            self.assertEqual(self.refused("NoFill", call, rule, *handed).lack, ("gap", 0, (4, 0)))

    def test_looks_are_told_of_rules_that_lack_something(self):
        for told, due in lacking_rules():
            rule = Rule(*told)
            self.refused("NoFill", floor_of, rule, 0, 1)
            self.assertEqual(corners(rule, (0, STAY)), told[2][0])
            self.assertEqual(len(greater(rule, 0)), len(told[2][0]))
            self.assertEqual(lack(rule), due)

    def test_refusals_change_nothing(self):
        for told, draw in self.each_rule(anew=0):
            rule = Rule(*told)
            before = floor_of(rule, 0, 1)
            self.refused("NoKind", floor_of, rule, 9, 1)
            self.refused("TooMany", floor_of, rule, 0, 12)
            self.refused("NoAddress", piece_at, rule, 0, (99,))
            self.assertEqual(floor_of(rule, 0, 1), before)
            self.assertEqual((rule.shapes(), rule.cuts()), (told[2], told[3]))


class OwnTest(FloorsTest):
    def test_what_is_told_may_be_cleared(self):
        for told, draw in self.each_rule(anew=0):
            rule = Rule(*told)
            due = copy.deepcopy((floor_of(rule, 0, 2), holders(rule, 0, 2, ORIGIN)))
            for _ in range(2):
                floor_of(rule, 0, 2).clear()
                floor_of(rule, 0, 1).append(None)
                holders(rule, 0, 2, ORIGIN).append(None)
                self.assertEqual((floor_of(rule, 0, 2), holders(rule, 0, 2, ORIGIN)), due)

    def test_what_was_told_stays(self):
        rule = Rule(*full("octagonal"))
        first = floor_of(rule, 0, 2)
        before = copy.deepcopy(first)
        for n in range(3):
            floor_of(rule, 1, n)
            holders(rule, 0, n, ORIGIN)
        self.refused("TooMany", floor_of, rule, 0, 5)
        self.assertEqual(first, before)
        self.assertIsNot(floor_of(rule, 0, 2), first)


if __name__ == "__main__":
    unittest.main()
