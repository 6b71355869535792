import copy
import itertools
import unittest

from inflate.floors import floor_of, piece_at
from inflate.frames import Frame
from inflate.looks import lack
from inflate.patches import same_by, sought
from inflate.points import joined, moved
from inflate.rules import Rule
from tests.helper import (FULL, MOST, SIZES, FloorsTest, full, how_many, is_move, lacking_rules, mixed, some_move,
                          some_small, source)

ORIGIN = ((0, 0), (0, 0))
STAY = (0, 0, ORIGIN)
# Where these are taken to tells a move.
BASE = (ORIGIN, ((1, 0), (0, 0)), ((0, 0), (1, 0)))


def off(x, y):
    return ((x, 0), (y, 0))


def laid(frame, piece):
    """The piece told by its kind and three points: moves are the same where these are."""
    return (piece[0], *[moved(frame, piece[1], point) for point in BASE])


def carried(frame, move, piece):
    """The same of the piece moved: each point is taken where the piece's own move takes it, then by the move."""
    return (piece[0], *[moved(frame, move, point) for point in laid(frame, piece)[1:]])


def minus(one, other):
    return tuple(tuple(p - q for p, q in zip(*numbers)) for numbers in zip(one, other))


def ways_of(frame, piece):
    """For each turn and flip of the piece how its three points lie to one another, the turn and flip, and the first."""
    rows = {}
    for turn, flip in itertools.product(range(frame.size()), (0, 1)):
        kind, start, *ends = carried(frame, (turn, flip, ORIGIN), piece)
        rows[tuple(minus(end, start) for end in ends)] = (turn, flip, start)
    assert len(rows) == 2 * frame.size()
    return rows


def move_between(frame, one, other):
    """The one move that takes the one piece to the other, looked for among all turns and flips; None where none."""
    return move_among(ways_of(frame, one), one[0], laid(frame, other))


def move_among(ways, own, place):
    kind, start, *ends = place
    if kind != own:
        return None
    turn, flip, put_start = ways[tuple(minus(end, start) for end in ends)]
    return (turn, flip, minus(start, put_start))


def due_same(frame, one, other):
    if len(one) != len(other):
        return None
    move = move_between(frame, one[0], other[0])
    if move is None or any(carried(frame, move, p) != laid(frame, q) for p, q in zip(one, other)):
        return None
    return move


def due_sought(rule, kind, n, patch):
    """The floor looked through one piece after another, for each move that takes the first piece into it."""
    frame = rule.frame()
    floor = [(address, piece, laid(frame, piece)) for address, piece in floor_of(rule, kind, n)]
    ways, rows = ways_of(frame, patch[0]), []
    for address, piece, place in floor:
        move = move_among(ways, patch[0][0], place)
        if move is not None:
            due = [carried(frame, move, part) for part in patch]
            found = [[other for other, beside, place in floor if place == part] for part in due]
            if all(found):
                rows.append([other for other, in found])
    return sorted(rows)


def put(frame, patch, move):
    return [(kind, joined(frame, own, move)) for kind, own in patch]


def small_move(draw, m):
    return (draw.randrange(m), draw.randrange(2), (some_small(draw, m), some_small(draw, m)))


class PatchesTest(FloorsTest):
    def some_patch(self, draw, told, count):
        return [(draw.randrange(len(told[2])), small_move(draw, told[0])) for _ in range(count)]

    def each_patch(self, anew=0):
        for told, draw in self.each_rule(anew):
            for count in range(1, 7):
                yield told, draw, Rule(*told), self.some_patch(draw, told, count)


class SameByTest(PatchesTest):
    def test_as_written(self):
        rule = Rule(*full("square in four"))
        right, above = (0, (0, 0, off(1, 0))), (0, (0, 0, off(0, 1)))
        self.assertEqual(same_by(rule, [(0, STAY)], [(0, STAY)]), STAY)
        self.assertEqual(same_by(rule, [(0, STAY)], [right]), (0, 0, off(1, 0)))
        self.assertEqual(same_by(rule, [right], [(0, STAY)]), (0, 0, off(-1, 0)))
        self.assertIsNone(same_by(rule, [(0, STAY), right], [(0, STAY), above]))
        # Turned to the left, what lay to the right lies above.
        self.assertEqual(same_by(rule, [(0, STAY), right], [(0, (1, 0, ORIGIN)), (0, (1, 0, off(0, 1)))]),
                         (1, 0, ORIGIN))
        # The first ones are as they should be: mirrored, then turned, then put elsewhere.
        self.assertEqual(same_by(rule, [(0, (1, 0, off(2, 3)))], [(0, (0, 1, off(5, 7)))]), (1, 1, off(2, 5)))
        self.assertEqual(same_by(rule, [(0, (0, 1, off(5, 7)))], [(0, (1, 0, off(2, 3)))]), (1, 1, off(-5, -2)))
        self.assertIsNone(same_by(rule, [(0, (1, 0, off(2, 3))), (0, STAY)], [(0, (0, 1, off(5, 7))), (0, STAY)]))

    def test_an_irrational_one_as_written(self):
        rule = Rule(*full("golden in three and two"))
        one = [(0, (1, 0, ((0, 1), (0, 0)))), (1, (0, 1, ((2, 0), (0, -1))))]
        other = [(0, (4, 0, ((-1, -1), (1, 1)))), (1, (3, 1, ((1, -1), (0, 1))))]
        self.assertEqual(same_by(rule, one, other), (3, 0, ORIGIN))
        self.assertEqual(same_by(rule, other, one), (7, 0, ORIGIN))
        self.assertIsNone(same_by(rule, one, [other[0], (0, other[1][1])]))
        self.assertIsNone(same_by(rule, one, [other[0], (1, (3, 1, ((1, -1), (1, 1))))]))

    def test_moved_by_each_turn_and_flip(self):
        for m in SIZES:
            for name in [name for name in FULL if full(name)[0] == m][:2]:
                told = full(name)
                draw, rule, frame = source(f"{self.id()} {name}"), Rule(*told), Frame(m)
                for turn, flip in itertools.product(range(m), (0, 1)):
                    patch = self.some_patch(draw, told, draw.randrange(1, 7))
                    move = (turn, flip, some_move(draw, m)[2])
                    self.assertEqual(same_by(rule, patch, put(frame, patch, move)), move)

    def test_moved_anyhow(self):
        for told, draw, rule, patch in self.each_patch(anew=1):
            m, frame = told[0], rule.frame()
            for move in (STAY, (0, 0, some_move(draw, m)[2]), some_move(draw, m)):
                other = put(frame, patch, move)
                found = same_by(rule, patch, other)
                self.assertEqual(found, move)
                self.assertTrue(is_move(m, found))
                self.assertEqual(put(frame, patch, found), other)
                for piece, beside in zip(patch, other):
                    self.assertEqual(carried(frame, found, piece), laid(frame, beside))
                self.assertEqual(due_same(frame, patch, other), move)
                back_again = same_by(rule, other, patch)
                self.assertEqual(put(frame, other, back_again), patch)

    def test_one_piece_is_always_the_same(self):
        for told, draw in self.each_rule():
            rule, frame = Rule(*told), Frame(told[0])
            kind = draw.randrange(len(told[2]))
            one, other = [(kind, some_move(draw, told[0]))], [(kind, some_move(draw, told[0]))]
            found = same_by(rule, one, other)
            self.assertEqual(put(frame, one, found), other)
            for beside in range(len(told[2])):
                if beside != kind:
                    self.assertIsNone(same_by(rule, one, [(beside, other[0][1])]))

    def test_one_piece_put_elsewhere(self):
        for told, draw, rule, patch in self.each_patch():
            m, frame = told[0], rule.frame()
            other = put(frame, patch, small_move(draw, m))
            for place in range(len(other) if len(other) > 1 else 0):
                kind, (turn, flip, (x, y)) = other[place]
                for wrong in ((kind, ((turn + 1) % m, flip, (x, y))), (kind, (turn, 1 - flip, (x, y))),
                              (kind, (turn, flip, ((x[0] + 1, x[1]), y))), (kind, (turn, flip, (x, (y[0] - 1, y[1]))))):
                    changed = other[:place] + [wrong] + other[place + 1:]
                    self.assertIsNone(due_same(frame, patch, changed))
                    self.assertIsNone(same_by(rule, patch, changed))
                    self.assertIsNone(same_by(rule, changed, patch))

    def test_a_piece_of_another_kind(self):
        for told, draw, rule, patch in self.each_patch():
            other = put(rule.frame(), patch, small_move(draw, told[0]))
            for place, (kind, move) in enumerate(other):
                for beside in range(len(told[2])):
                    if beside != kind:
                        changed = other[:place] + [(beside, move)] + other[place + 1:]
                        self.assertIsNone(same_by(rule, patch, changed))
                        self.assertIsNone(same_by(rule, changed, patch))

    def test_in_another_order(self):
        told_of = set()
        for told, draw, rule, patch in self.each_patch():
            frame = rule.frame()
            other = put(frame, patch, small_move(draw, told[0]))
            draw.shuffle(other)
            due = due_same(frame, patch, other)
            self.assertEqual(same_by(rule, patch, other), due)
            told_of.add(due is None)
        self.assertEqual(told_of, {True, False})
        # Two halves of a turn: each one comes where the other one was.
        rule = Rule(*full("square in four"))
        pair = [(0, STAY), (0, (2, 0, off(2, 1)))]
        self.assertEqual(same_by(rule, pair, pair[::-1]), (2, 0, off(2, 1)))
        self.assertIsNone(same_by(rule, pair + [(0, (0, 0, off(0, 1)))], pair[::-1] + [(0, (0, 0, off(0, 1)))]))

    def test_pieces_alike(self):
        for told, draw, rule, patch in self.each_patch():
            frame, move = rule.frame(), small_move(draw, told[0])
            double = (patch + patch)[:6]
            self.assertEqual(same_by(rule, double, put(frame, double, move)), move)
            self.assertEqual(same_by(rule, [patch[0]] * 6, put(frame, [patch[0]] * 6, move)), move)
            unlike = self.some_patch(draw, told, 1) + [patch[0]]
            if unlike[0] != patch[0]:
                self.assertIsNone(same_by(rule, [patch[0]] * 2, unlike))
                self.assertIsNone(same_by(rule, unlike, [patch[0]] * 2))

    def test_another_number_of_pieces(self):
        for told, draw, rule, patch in self.each_patch():
            other = put(rule.frame(), patch, small_move(draw, told[0]))
            for longer in (other + other[-1:], other + other[:1], other + self.some_patch(draw, told, 1)):
                self.assertIsNone(same_by(rule, patch, longer))
                self.assertIsNone(same_by(rule, longer, patch))
            self.assertIsNone(same_by(rule, [patch[0]] * 3, [patch[0]] * 2))

    def test_any_two(self):
        for told, draw, rule, patch in self.each_patch(anew=1):
            other = self.some_patch(draw, told, len(patch))
            self.assertEqual(same_by(rule, patch, other), due_same(rule.frame(), patch, other))

    def test_kinds_and_moves_tell_it_not_the_places(self):
        # A square turned about its middle lies where it lay, and is another piece all the same.
        rule = Rule(*full("square in four"))
        one, other = [(0, STAY), (0, (0, 0, off(1, 0)))], [(0, (1, 0, off(1, 0))), (0, (0, 0, off(1, 0)))]
        self.assertIsNone(same_by(rule, one, other))

    def test_what_is_handed_in_stays(self):
        for told, draw, rule, patch in self.each_patch():
            other = put(rule.frame(), patch, small_move(draw, told[0]))
            before = copy.deepcopy((patch, other))
            due = same_by(rule, patch, other)
            same_by(rule, patch, other[1:])
            self.assertEqual((patch, other), before)
            self.assertEqual(same_by(rule, patch, other), due)

    def test_patches_of_floors(self):
        # The parts of two pieces of one kind are the same patch, by what lies between the two.
        for told, draw in self.each_rule():
            rule = Rule(*told)
            for kind in range(len(told[2])):
                floor = floor_of(rule, kind, 2)
                ahead = draw.choice(floor_of(rule, kind, 1))
                parts = [piece for address, piece in floor if address[:1] == ahead[0]][:6]
                cut = [piece for address, piece in floor_of(rule, ahead[1][0], 1)][:6]
                found = same_by(rule, cut, parts)
                self.assertEqual(found[:2], ahead[1][1][:2])
                self.assertEqual(put(rule.frame(), cut, found), parts)

    def test_no_fill(self):
        for told, due in lacking_rules():
            rule = Rule(*told)
            for one, other in (([(0, STAY)], [(0, STAY)]), ([(0, STAY)], [(0, STAY)] * 2)):
                self.assertEqual(self.refused("NoFill", same_by, rule, one, other).lack, due)


class SoughtTest(PatchesTest):
    def each_small(self, most=40, anew=1):
        """Floors grown none to three times, of rules as written, redrawn, and with parts turned and mirrored anew."""
        for told, draw in self.each_rule(anew):
            for way in (told, mixed(draw, told)):
                rule = Rule(*way)
                for n in range(4):
                    kind = draw.randrange(len(way[2]))
                    if how_many(way, kind, n) <= most:
                        yield way, draw, rule, kind, n

    def holds(self, rule, kind, n, patch):
        found = sought(rule, kind, n, patch)
        self.assertEqual(found, due_sought(rule, kind, n, patch))
        return found

    def test_as_written(self):
        rule = Rule(*full("square in four"))
        one, right = (0, STAY), (0, (0, 0, off(1, 0)))
        self.assertEqual(sought(rule, 0, 0, [one]), [[()]])
        self.assertEqual(sought(rule, 0, 0, [right]), [[()]])
        self.assertEqual(sought(rule, 0, 0, [one, right]), [])
        self.assertEqual(sought(rule, 0, 1, [one]), [[(0,)], [(1,)], [(2,)], [(3,)]])
        self.assertEqual(sought(rule, 0, 1, [one, right]), [[(0,), (1,)], [(3,), (2,)]])
        self.assertEqual(sought(rule, 0, 1, [right, one]), [[(1,), (0,)], [(2,), (3,)]])
        self.assertEqual(sought(rule, 0, 1, [one, one, right]), [[(0,), (0,), (1,)], [(3,), (3,), (2,)]])
        self.assertEqual(sought(rule, 0, 2, [one, (0, (0, 0, off(3, 0)))]), [
            [(0, 0), (1, 1)], [(0, 3), (1, 2)], [(3, 0), (2, 1)], [(3, 3), (2, 2)]])
        self.assertEqual(sought(rule, 0, 2, [one, (0, (0, 0, off(4, 0)))]), [])
        # Its squares are all turned alike.
        self.assertEqual(sought(rule, 0, 2, [one, (0, (1, 0, off(1, 0)))]), [])
        self.assertEqual(sought(rule, 0, 1, [(0, (1, 0, off(7, 7)))]), [[(0,)], [(1,)], [(2,)], [(3,)]])

    def test_an_irrational_one_as_written(self):
        rule = Rule(*full("golden in three and two"))
        pair = [(0, STAY), (1, (4, 0, ((1, 1), (0, 0))))]
        self.assertEqual(sought(rule, 1, 1, pair), [[(0,), (1,)]])
        self.assertEqual(sought(rule, 0, 1, pair), [[(0,), (2,)]])
        self.assertEqual(sought(rule, 1, 1, pair[::-1]), [[(1,), (0,)]])
        self.assertEqual(sought(rule, 0, 2, pair), [[(0, 0), (0, 2)], [(1, 0), (1, 2)], [(2, 0), (2, 1)]])

    def test_pieces_of_the_floor(self):
        seen = set()
        for told, draw, rule, kind, n in self.each_small(most=64):
            floor, frame = floor_of(rule, kind, n), rule.frame()
            for count in draw.sample(range(1, 7), 2):
                rows = [draw.choice(floor) for _ in range(count)]
                patch = [piece for address, piece in rows]
                addresses = [address for address, piece in rows]
                self.assertIn(addresses, self.holds(rule, kind, n, patch))
                elsewhere = put(frame, patch, some_move(draw, told[0]))
                self.assertEqual(sought(rule, kind, n, elsewhere), sought(rule, kind, n, patch))
                seen.add((told[0], n, count, elsewhere[0][1][1]))
        for m in SIZES:
            self.assertEqual({(n, flip) for size, n, count, flip in seen if size == m},
                             set(itertools.product(range(4), (0, 1))))
            self.assertEqual({count for size, n, count, flip in seen if size == m}, set(range(1, 7)))

    def test_patches_mirrored(self):
        # The pieces' corners mirrored: another patch, unless the rule has it, too.
        told_of = set()
        for told, draw, rule, kind, n in self.each_small(most=20, anew=0):
            floor = floor_of(rule, kind, n)
            rows = [draw.choice(floor) for _ in range(2)]
            patch = [(own, (-turn % told[0], 1 - flip, place)) for address, (own, (turn, flip, place)) in rows]
            told_of.add(bool(self.holds(rule, kind, n, patch)))
        self.assertEqual(told_of, {True, False})

    def test_pieces_alike(self):
        for told, draw, rule, kind, n in self.each_small(most=20, anew=0):
            floor = floor_of(rule, kind, n)
            one, other = draw.choice(floor)[1], draw.choice(floor)[1]
            for patch in ([one, one], [one] * 6, [one, other, one], [one, one, other, other]):
                for row in self.holds(rule, kind, n, patch):
                    self.assertEqual(len(row), len(patch))
                    for place, piece in enumerate(patch):
                        self.assertEqual(row[place], row[patch.index(piece)])
            alone = [[address] for address, piece in floor if piece[0] == one[0]]
            self.assertEqual(sought(rule, kind, n, [one] * 3), [row * 3 for row in alone])

    def test_each_piece_alone(self):
        for told, draw, rule, kind, n in self.each_small(most=MOST):
            floor = floor_of(rule, kind, n)
            for own in range(len(told[2])):
                patch = [(own, some_move(draw, told[0]))]
                self.assertEqual(sought(rule, kind, n, patch),
                                 [[address] for address, piece in floor if piece[0] == own])

    def test_each_one_is_the_same_patch(self):
        for told, draw, rule, kind, n in self.each_small(most=MOST, anew=0):
            floor = floor_of(rule, kind, n)
            patch = [draw.choice(floor)[1] for _ in range(draw.randrange(1, 4))]
            rows = sought(rule, kind, n, patch)
            moves = [same_by(rule, patch, [piece_at(rule, kind, address) for address in row]) for row in rows]
            self.assertNotIn(None, moves)
            self.assertEqual(len(set(moves)), len(moves))
            self.assertIn(STAY, moves)

    def test_the_form_of_lists(self):
        for told, draw, rule, kind, n in self.each_small(most=20, anew=0):
            floor = floor_of(rule, kind, n)
            rows = sought(rule, kind, n, [draw.choice(floor)[1] for _ in range(draw.randrange(1, 4))])
            self.assertIsInstance(rows, list)
            self.assertTrue(all(one < other for one, other in zip(rows, rows[1:])))
            addresses = [address for address, piece in floor]
            for row in rows:
                self.assertIsInstance(row, list)
                self.assertTrue(all(address in addresses for address in row))

    def test_nowhere(self):
        for told, draw, rule, kind, n in self.each_small(anew=0):
            floor, frame = floor_of(rule, kind, n), rule.frame()
            piece = draw.choice(floor)[1]
            far = (piece[0], joined(frame, piece[1], (0, 0, off(10 ** 9, 7))))
            near = (piece[0], joined(frame, piece[1], (0, 0, off(0, 1))))
            for patch in ([piece, far], [far, piece], [piece] * 5 + [far]):
                self.assertEqual(sought(rule, kind, n, patch), [])
            self.holds(rule, kind, n, [piece, near])
            self.holds(rule, kind, n, [near, piece])
            self.holds(rule, kind, n, [piece, (piece[0], (piece[1][0], 1 - piece[1][1], piece[1][2]))])

    def test_a_kind_that_is_not_there(self):
        rule = Rule(*full("hexagon in six"))
        self.assertEqual(sought(rule, 0, 0, [(1, STAY)]), [])
        self.assertEqual(sought(rule, 1, 2, [(0, STAY)]), [])
        self.assertEqual(sought(rule, 0, 1, [(1, STAY), (0, STAY)]), [])
        self.assertEqual(len(sought(rule, 0, 2, [(1, STAY)])), 24)

    def test_any_patches(self):
        for told, draw, rule, kind, n in self.each_small(most=20, anew=0):
            self.holds(rule, kind, n, self.some_patch(draw, told, draw.randrange(1, 4)))

    def test_great_floors(self):
        for name, kind, n in (("squares 300", 2, 3), ("octagonal", 1, 3), ("half square in two", 0, 8),
                              ("right triangle in three", 0, 5)):
            draw = source(f"{self.id()} {name}")
            rule = Rule(*full(name))
            floor = floor_of(rule, kind, n)
            start = draw.randrange(len(floor) - 5)
            patch = [piece for address, piece in floor[start:start + draw.randrange(2, 7)]]
            self.assertIn([address for address, piece in floor[start:start + len(patch)]],
                          self.holds(rule, kind, n, patch))

    def test_asked_again(self):
        for told, draw, rule, kind, n in self.each_small(most=20, anew=0):
            patch = [draw.choice(floor_of(rule, kind, n))[1] for _ in range(2)]
            before = copy.deepcopy(patch)
            due = sought(Rule(*told), kind, n, patch)
            first = sought(rule, kind, n, patch)
            second = sought(rule, kind, n, patch)
            self.assertEqual((first, second), (due, due))
            for row in first:
                row.clear()
            first.append(None)
            self.assertEqual(second, due)
            self.assertEqual(sought(rule, kind, n, patch), due)
            self.assertEqual(patch, before)
            patch.clear()
            self.assertEqual(second, due)

    def test_refused_as_floors_are(self):
        patch = [(0, STAY)]
        for told, draw in self.each_rule(anew=0):
            rule, count = Rule(*told), len(told[2])
            for kind in (-1, -count, count, count + 1, 10 ** 59):
                for n in (0, 1, 12):
                    self.refused("NoKind", sought, rule, kind, n, patch)
            for kind in range(count):
                for n in range(13):
                    if how_many(told, kind, n) > MOST:
                        self.refused("TooMany", sought, rule, kind, n, patch)
                        self.refused("TooMany", sought, rule, kind, n, patch * 6)
                    elif n < 3:
                        self.assertIsInstance(sought(rule, kind, n, patch), list)

    def test_just_300_pieces(self):
        for name, kind, n in (("squares 300", 2, 3), ("squares 300 thrice", 0, 5)):
            rule = Rule(*full(name))
            found = sum(len(sought(rule, kind, n, [(own, STAY)])) for own in range(4))
            self.assertEqual(found, 300)
            self.refused("TooMany", sought, rule, kind, n + 1, [(0, STAY)])
        self.refused("TooMany", sought, Rule(*full("squares 301")), 2, 3, [(0, STAY)])

    def test_no_fill_goes_ahead(self):
        for told, due in lacking_rules():
            rule = Rule(*told)
            self.assertEqual(lack(rule), due)
            for kind, n in itertools.product((0, -1, 9), (0, 1, 12)):
                self.assertEqual(self.refused("NoFill", sought, rule, kind, n, [(0, STAY)]).lack, due)


class BeyondTest(PatchesTest):
    def test_more_or_less_pieces_are_not_refused(self):
        rule, frame = Rule(*full("square in nine")), Frame(4)
        floor = floor_of(rule, 0, 1)
        patch = [piece for address, piece in floor]
        self.assertEqual(same_by(rule, patch, put(frame, patch, (3, 1, off(2, -5)))), (3, 1, off(2, -5)))
        self.assertEqual(sought(rule, 0, 1, patch), [[address for address, piece in floor]])
        # Without pieces nothing hinders.
        self.assertEqual(same_by(rule, [], []), STAY)
        self.assertIsNone(same_by(rule, [], patch))
        self.assertIsNone(same_by(rule, patch, []))
        self.assertEqual(sought(rule, 0, 1, []), [[]])


if __name__ == "__main__":
    unittest.main()
