import copy
import itertools
import unittest

from inflate import errors
from inflate.frames import Frame, minus
from inflate.looks import corners, greater, lack
from inflate.points import added, moved
from inflate.rules import Rule
from inflate.shapes import is_shape, twice
from tests.helper import (FULL, NEAR, SIZES, decimal_sine, decimal_value, full, in_plane, is_number, is_point, is_whole,
                          plane_lack, plane_moved, redrawn, same_place, some_move, some_shape, some_small, source)

ORIGIN = ((0, 0), (0, 0))
STAY = (0, 0, ORIGIN)
FAR = ((900, 0), (-700, 0))


def off(x, y):
    return ((x, 0), (y, 0))


def shifted(part, by):
    kind, (turn, flip, place) = part
    return (kind, (turn, flip, added(place, by)))


class LooksTest(unittest.TestCase):
    def each_rule(self):
        for name in FULL:
            yield name, full(name), source(f"{self.id()} {name}")

    def loose_rules(self):
        """Rules with shapes of three to six corners, whatever they lack."""
        for m in SIZES:
            draw = source(f"{self.id()} {m}")
            shapes = [some_shape(draw, m, count) for count in (3, 4, 5, 6)]
            for scale in ((2, 0), (7, 0)) + (() if m in (4, 6) else ((0, 1), (3, -1), (-3, 4))):
                yield m, draw, Rule(m, scale, shapes, [[(0, STAY)]] * 4)


class CornersTest(LooksTest):
    def test_as_written(self):
        rule = Rule(4, (2, 0), [[off(0, 0), off(3, 0), off(3, 1), off(0, 1)]], [[(0, STAY)]])
        self.assertEqual(corners(rule, (0, STAY)), [off(0, 0), off(3, 0), off(3, 1), off(0, 1)])
        self.assertEqual(corners(rule, (0, (1, 0, off(10, 0)))), [off(10, 0), off(10, 3), off(9, 3), off(9, 0)])
        self.assertEqual(corners(rule, (0, (0, 1, off(10, 0)))), [off(10, -1), off(13, -1), off(13, 0), off(10, 0)])
        self.assertEqual(corners(rule, (0, (1, 1, off(0, 5)))), [off(1, 5), off(1, 8), off(0, 8), off(0, 5)])

    def test_corners_moved_in_order_or_from_the_last_to_the_first(self):
        for m, draw, rule in self.loose_rules():
            frame = rule.frame()
            for kind, shape in enumerate(rule.shapes()):
                for turn in range(m):
                    for flip in (0, 1):
                        move = (turn, flip, some_move(draw, m)[2])
                        told = corners(rule, (kind, move))
                        self.assertIsInstance(told, list)
                        self.assertTrue(all(is_point(m, corner) for corner in told))
                        self.assertIs(is_shape(frame, told), True)
                        self.assertEqual(twice(frame, told), twice(frame, shape))
                        for corner, point in zip(reversed(told) if flip else told, shape, strict=True):
                            self.assertEqual(corner, moved(frame, move, point))
                            place = plane_moved(m, move, in_plane(m, point))
                            self.assertTrue(same_place(in_plane(m, corner), place))

    def test_a_kind_that_is_none(self):
        for m, draw, rule in self.loose_rules():
            for kind in (-1, -4, 4, 5, 10 ** 59):
                with self.assertRaises(errors.NoKind):
                    corners(rule, (kind, STAY))


class GreaterTest(LooksTest):
    def test_as_written(self):
        rule = Rule(*full("octagonal"))
        self.assertEqual(greater(rule, 1), [ORIGIN, ((1, 1), (0, 0)), ((-1, -1), (2, 1))])
        rule = Rule(*full("golden in three and two"))
        self.assertEqual(greater(rule, 0), [ORIGIN, ((1, 1), (0, 0)), ((0, 0), (1, 1))])
        self.assertEqual(greater(rule, 1), [ORIGIN, ((1, 1), (0, 0)), ((0, 0), (0, 1))])

    def test_corners_multiplied_by_the_scale(self):
        for m, draw, rule in self.loose_rules():
            frame = rule.frame()
            times = decimal_value(m, rule.scale())
            for kind, shape in enumerate(rule.shapes()):
                told = greater(rule, kind)
                self.assertIsInstance(told, list)
                self.assertIs(is_shape(frame, told), True)
                self.assertEqual(twice(frame, told), frame.times(twice(frame, shape), frame.power(rule.scale(), 2)))
                for corner, point in zip(told, shape, strict=True):
                    self.assertTrue(is_point(m, corner))
                    right, up = in_plane(m, point)
                    self.assertTrue(same_place(in_plane(m, corner), (right * times, up * times)))

    def test_a_kind_that_is_none(self):
        for name, told, draw in self.each_rule():
            rule = Rule(*told)
            for kind in (-1, -len(told[2]), len(told[2]), len(told[2]) + 1, 10 ** 59, -10 ** 59):
                with self.assertRaises(errors.NoKind):
                    greater(rule, kind)

    def test_it_is_told_of_rules_that_lack_something(self):
        rule = Rule(4, (3, 0), [[off(0, 0), off(1, 0), off(0, 1)]], [[(0, STAY)]])
        self.assertIsNotNone(lack(rule))
        self.assertEqual(greater(rule, 0), [off(0, 0), off(3, 0), off(0, 3)])
        with self.assertRaises(errors.NoKind):
            greater(rule, 1)


class LackTest(LooksTest):
    def held(self, told, due):
        before = copy.deepcopy(told)
        answer = lack(Rule(*told))
        self.assertEqual(answer, due)
        self.assertTrue(answer is None or isinstance(answer, tuple))
        self.assertEqual(told, before)

    def held_in_plane(self, told):
        """Tells which sort of lack it was."""
        m = told[0]
        answer, due = lack(Rule(*told)), plane_lack(told)
        if due is None:
            self.assertIsNone(answer)
            return None
        self.assertIsInstance(answer, tuple)
        self.assertTrue(all(is_whole(number) for number in answer[1:] if due[0] != "gap"))
        if due[0] == "gap":
            self.assertEqual(answer[:2], due[:2])
            self.assertEqual(len(answer), 3)
            self.assertTrue(is_number(m, answer[2]))
            self.assertLess(abs(decimal_value(m, answer[2]) * decimal_sine(m) - due[2]), NEAR)
        else:
            self.assertEqual(answer, due)
        return due[0]


class NothingLacksTest(LackTest):
    def test_nothing(self):
        for name, told, draw in self.each_rule():
            self.held(told, None)

    def test_parts_in_any_order(self):
        for name, told, draw in self.each_rule():
            for _ in range(2):
                for cut in told[3]:
                    draw.shuffle(cut)
                self.held(told, None)
        m, scale, shapes, cuts = full("golden in three and two")
        for first in itertools.permutations(cuts[0]):
            for second in itertools.permutations(cuts[1]):
                self.held((m, scale, shapes, [list(first), list(second)]), None)

    def test_turned_and_flipped(self):
        for name, told, draw in self.each_rule():
            for _ in range(3):
                self.held(redrawn(draw, told), None)

    def test_parts_that_may_be_put_in_several_ways(self):
        square = full("square in four")
        for turns in itertools.product(range(4), repeat=2):
            cut = []
            for corner, turn in zip((off(0, 0), off(1, 0), off(0, 1), off(1, 1)), turns + turns):
                # The square's own corner lies at another one of the part's, as it is turned.
                at = {0: (0, 0), 1: (1, 0), 2: (1, 1), 3: (0, 1)}[turn]
                cut.append((0, (turn, 0, added(corner, off(*at)))))
            self.held(square[:3] + ([cut],), None)
        flipped = [(0, (0, 1, added(corner, off(0, 1)))) for corner in (off(0, 0), off(1, 0), off(0, 1), off(1, 1))]
        self.held(square[:3] + ([flipped],), None)


class LackingTest(LackTest):
    def test_as_written(self):
        m, scale, shapes, (cut,) = full("square in four")
        for row, due in (
                (cut[:3], ("gap", 0, (2, 0))),
                (cut[:1], ("gap", 0, (6, 0))),
                (cut + cut[:1], ("overlap", 0, 0, 4)),
                (cut[:2] + cut[1:], ("overlap", 0, 1, 2)),
                (cut[:3] + cut[:2], ("overlap", 0, 0, 3)),
                ([cut[1], cut[0], cut[0], cut[1]], ("overlap", 0, 0, 3)),
                (cut[:3] + [(0, (0, 0, off(2, 0)))], ("outside", 0, 3)),
                (cut[:3] + [(0, (1, 0, off(0, 0)))], ("outside", 0, 3)),
                (cut[:3] + [(0, (0, 1, off(0, 0)))], ("outside", 0, 3)),
                ([cut[0], cut[0], (0, (2, 0, off(0, 0)))], ("outside", 0, 2)),
                ([cut[0], cut[0], (0, (2, 0, off(1, 1)))], ("overlap", 0, 0, 1)),
                ([cut[0], cut[1], (0, (2, 0, off(1, 1)))], ("overlap", 0, 0, 2))):
            self.held((m, scale, shapes, [row]), due)

    def test_gaps_of_irrational_area(self):
        m, scale, shapes, cuts = full("golden in three and two")
        # The twices of the two kinds are the golden number's square and the golden number.
        self.held((m, scale, shapes, [cuts[0][1:], cuts[1]]), ("gap", 0, (1, 1)))
        self.held((m, scale, shapes, [cuts[0][:2], cuts[1]]), ("gap", 0, (0, 1)))
        self.held((m, scale, shapes, [cuts[0], cuts[1][1:]]), ("gap", 1, (1, 1)))
        self.held((m, scale, shapes, [cuts[0], cuts[1][:1]]), ("gap", 1, (0, 1)))
        self.held((m, scale, shapes, [cuts[0][:1], cuts[1][:1]]), ("gap", 0, (1, 2)))
        m, scale, shapes, cuts = full("rectangle in two")
        self.held((m, scale, shapes, [cuts[0][:1]]), ("gap", 0, (4, 0)))
        m, scale, shapes, cuts = full("octagonal")
        self.held((m, scale, shapes, [cuts[0][:6], cuts[1]]), ("gap", 0, (0, 1)))
        self.held((m, scale, shapes, [cuts[0][1:], cuts[1]]), ("gap", 0, (2, 0)))

    def test_parts_left_out(self):
        for name, told, draw in self.each_rule():
            m, scale, shapes, cuts = told
            frame = Frame(m)
            for kind, cut in enumerate(cuts):
                if len(cut) > 1:
                    for number, part in enumerate(cut):
                        less = cuts[:kind] + [cut[:number] + cut[number + 1:]] + cuts[kind + 1:]
                        self.held((m, scale, shapes, less), ("gap", kind, twice(frame, shapes[part[0]])))

    def test_parts_moved_out(self):
        for name, told, draw in self.each_rule():
            m, scale, shapes, cuts = told
            for kind, cut in enumerate(cuts):
                for number, part in enumerate(cut):
                    out = cuts[:kind] + [cut[:number] + [shifted(part, FAR)] + cut[number + 1:]] + cuts[kind + 1:]
                    self.held((m, scale, shapes, out), ("outside", kind, number))

    def test_parts_put_twice(self):
        for name, told, draw in self.each_rule():
            m, scale, shapes, cuts = told
            for kind, cut in enumerate(cuts):
                for one in range(len(cut)):
                    for other in range(one):
                        # In the place of another one, and ahead of all or behind all.
                        again = cut[:one] + [cut[other]] + cut[one + 1:]
                        self.held((m, scale, shapes, cuts[:kind] + [again] + cuts[kind + 1:]),
                                  ("overlap", kind, other, one))
                    if len(cut) < 12:
                        self.held((m, scale, shapes, cuts[:kind] + [cut + [cut[one]]] + cuts[kind + 1:]),
                                  ("overlap", kind, one, len(cut)))
                        self.held((m, scale, shapes, cuts[:kind] + [[cut[one]] + cut] + cuts[kind + 1:]),
                                  ("overlap", kind, 0, one + 1))

    def test_parts_put_half_over_one_another(self):
        # In rules drawn twice as great, so that a half of each side is a point.
        seen = []
        for name in ("square in four", "square in nine", "triangle in four", "triangle in nine", "half square in two",
                     "rectangle in two", "rectangle in three", "golden in three and two", "right triangle in three"):
            m, scale, shapes, cuts = full(name)
            great = [[added(corner, corner) for corner in shape] for shape in shapes]
            fine = [[shifted(part, part[1][2]) for part in cut] for cut in cuts]
            self.held((m, scale, great, fine), None)
            for kind, cut in enumerate(fine):
                for number, part in enumerate(cut):
                    for step in self.half_sides(m, shapes[part[0]], part[1]):
                        over = cut[:number] + [shifted(part, step)] + cut[number + 1:]
                        seen.append(self.held_in_plane((m, scale, great, fine[:kind] + [over] + fine[kind + 1:])))
        self.assertEqual(set(seen), {"overlap", "outside"})
        self.assertGreater(seen.count("overlap"), 20)

    def half_sides(self, m, shape, move):
        placed = [moved(Frame(m), move, corner) for corner in shape]
        for one, other in zip(placed, placed[1:] + placed[:1]):
            yield tuple(minus(p, q) for p, q in zip(one, other))
            yield tuple(minus(q, p) for p, q in zip(one, other))

    def test_outside_goes_ahead_of_overlap_and_overlap_of_gap(self):
        for name, told, draw in self.each_rule():
            m, scale, shapes, cuts = told
            for kind, cut in enumerate(cuts):
                threes = [three for three in itertools.permutations(range(len(cut)), 3) if three[0] < three[1]]
                for one, other, out in draw.sample(threes, min(12, len(threes))):
                    new = list(cut)
                    new[other] = cut[one]
                    self.held((m, scale, shapes, cuts[:kind] + [new] + cuts[kind + 1:]), ("overlap", kind, one, other))
                    new[out] = shifted(cut[out], FAR)
                    self.held((m, scale, shapes, cuts[:kind] + [new] + cuts[kind + 1:]), ("outside", kind, out))

    def test_the_first_outside_and_the_first_overlap(self):
        m, scale, shapes, (cut,) = full("square in nine")
        for first, second in itertools.combinations(range(9), 2):
            new = list(cut)
            new[first], new[second] = shifted(cut[first], FAR), shifted(cut[second], FAR)
            self.held((m, scale, shapes, [new]), ("outside", 0, first))
        for rows, due in ((((3, 0), (2, 1)), (0, 3)), (((8, 2), (5, 2)), (2, 5)), (((1, 7), (4, 0)), (0, 4)),
                          (((5, 4), (8, 3)), (3, 8)), (((6, 0), (7, 0)), (0, 6))):
            new = list(cut)
            for place, number in rows:
                new[place] = cut[number]
            self.held((m, scale, shapes, [new]), ("overlap", 0) + due)

    def test_kind_by_kind(self):
        for name, told, draw in self.each_rule():
            m, scale, shapes, cuts = told
            frame = Frame(m)
            if len(cuts) == 1:
                continue
            wrong = []
            for kind, cut in enumerate(cuts):
                rows = [([shifted(cut[0], FAR)] + cut[1:], ("outside", kind, 0))]
                if len(cut) > 1:
                    rows.append((cut[:1] + cut[:-1], ("overlap", kind, 0, 1)))
                    rows.append((cut[:-1], ("gap", kind, twice(frame, shapes[cut[-1][0]]))))
                wrong.append(rows)
            for one, other in itertools.combinations(range(len(cuts)), 2):
                for first, due in wrong[one]:
                    for second, _ in wrong[other]:
                        new = list(cuts)
                        new[one], new[other] = first, second
                        self.held((m, scale, shapes, new), due)

    def test_a_part_that_reaches_out_a_little(self):
        # A narrow part turned about amid the square: whichever of its corners is the farthest one reaches out.
        needle = [off(0, 0), off(4, 0), off(0, 1)]
        square = [off(0, 0), off(2, 0), off(2, 2), off(0, 2)]
        for turn in range(4):
            for flip in (0, 1):
                told = (4, (2, 0), [square, needle], [[(1, (turn, flip, off(2, 2)))], [(1, STAY)]])
                self.held(told, ("outside", 0, 0))
                told = (4, (4, 0), [square, needle], [[(1, (turn, flip, off(4, 4)))], [(1, STAY)]])
                self.held(told, ("gap", 0, (124, 0)))
        triangle = [off(0, 0), off(1, 0), off(0, 1)]
        for m in (8, 10, 12):
            slight = {8: (-1, 1), 10: (-1, 1), 12: (2, -1)}[m]
            for n in (1, 3, 6):
                step = (Frame(m).power(slight, n), (0, 0))
                told = (m, (2, 0), [triangle], [[(0, (0, 0, added(off(1, 0), step)))]])
                self.held(told, ("outside", 0, 0))
                near = (minus((1, 0), step[0]), (0, 0))
                told = (m, (2, 0), [triangle], [[(0, STAY), (0, (0, 0, near))]])
                self.held(told, ("overlap", 0, 0, 1))
                told = (m, (2, 0), [triangle], [[(0, (0, 0, near))]])
                self.held(told, ("gap", 0, (3, 0)))

    def test_another_scale(self):
        for name, told, draw in self.each_rule():
            m, scale, shapes, cuts = told
            for new_scale in ((2, 0), (3, 0), (4, 0)) + (() if m in (4, 6) else ((0, 1), (1, 1), (2, 1))):
                seen = self.held_in_plane((m, new_scale, shapes, cuts))
                self.assertEqual(seen is None, new_scale == scale)

    def test_any_changes(self):
        seen = {}
        for name, told, draw in self.each_rule():
            for _ in range(8):
                m, scale, shapes, cuts = redrawn(draw, full(name))
                for _ in range(draw.choice((1, 1, 2))):
                    cut = draw.choice(cuts)
                    number = draw.randrange(len(cut))
                    kind, (turn, flip, place) = cut[number]
                    change = draw.randrange(5)
                    if change == 0 and len(cut) > 1:
                        cut.pop(number)
                    elif change == 1:
                        cut[number] = draw.choice(cut)
                    elif change == 2:
                        cut[number] = (kind, (draw.randrange(m), flip, place))
                    elif change == 3:
                        cut[number] = (draw.randrange(len(shapes)), (turn, flip, place))
                    else:
                        cut[number] = shifted(cut[number], (some_small(draw, m), some_small(draw, m)))
                sort = self.held_in_plane((m, scale, shapes, cuts))
                seen[sort] = seen.get(sort, 0) + 1
        self.assertEqual(set(seen), {None, "outside", "overlap", "gap"})

    def test_asked_again_the_same_is_told(self):
        for name, told, draw in self.each_rule():
            rule = Rule(*told)
            self.assertEqual([lack(rule), lack(rule)], [None, None])
            told[3][-1][-1] = shifted(told[3][-1][-1], FAR)
            self.assertIsNone(lack(rule))
            lacking = Rule(*told)
            due = ("outside", len(told[3]) - 1, len(told[3][-1]) - 1)
            self.assertEqual([lack(lacking), lack(rule), lack(lacking)], [due, None, due])


if __name__ == "__main__":
    unittest.main()
