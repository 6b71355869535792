import copy
import unittest

from inflate import errors
from inflate.floors import floor_of, holders, piece_at
from inflate.frames import Frame
from inflate.looks import corners, greater, lack
from inflate.rules import Rule
from tests.helper import (FULL, SIZES, decimal_value, full, is_number, is_point, read, redrawn, some_shape, source)

ORIGIN = ((0, 0), (0, 0))
STAY = (0, 0, ORIGIN)
TRIANGLE = [ORIGIN, ((1, 0), (0, 0)), ((0, 0), (1, 0))]
# In each frame numbers greater than 1, and others that are not: some with a above 1, some just beside 1.
SCALES = {
    4: ([(2, 0), (3, 0), (1000, 0)], [(1, 0), (0, 0), (-1, 0), (-2, 0), (-1000, 0)]),
    6: ([(2, 0), (3, 0), (1000, 0)], [(1, 0), (0, 0), (-1, 0), (-2, 0), (-1000, 0)]),
    8: ([(0, 1), (1, 1), (-1, 2), (10, -6), (-1000, 1000), (-238, 169), (-574, 407), (1000, -706), (2, 0)],
        [(2, -1), (3, -2), (1000, -707), (1000, -1000), (5, -3), (240, -169), (1, 0), (0, 0), (1, -1), (0, -1),
         (-1, 1), (-1, -1), (-500, 354)]),
    10: ([(0, 1), (1, 1), (-1, 2), (-143, 90), (-1000, 1000), (1000, -617), (5, -2), (2, 0)],
         [(2, -1), (3, -2), (4, -2), (1000, -618), (1000, -1000), (-88, 55), (145, -89), (1, 0), (0, 0), (1, -1),
          (0, -1), (-1, 1), (-1, -1)]),
    12: ([(0, 1), (1, 1), (-2, 2), (-1000, 1000), (-208, 121), (98, -56), (1000, -576), (2, 0)],
         [(2, -1), (3, -2), (4, -2), (1000, -577), (1000, -1000), (-96, 56), (210, -121), (1, 0), (0, 0), (1, -1),
          (0, -1), (-1, 1), (-1, -1)]),
}


def plain(m, shapes=1, parts=1):
    """What a rule may be made of, whatever it lacks."""
    return [m, (2, 0), [list(TRIANGLE) for _ in range(shapes)], [[(0, STAY)] * parts for _ in range(shapes)]]


class RulesTest(unittest.TestCase):
    def refused(self, name, made_of):
        before = copy.deepcopy(made_of)
        with self.assertRaises(errors.FloorError, msg=repr(made_of)) as taken:
            Rule(*made_of)
        self.assertIs(taken.exception.__class__, getattr(errors, name), made_of)
        self.assertEqual(made_of, before)

    def made(self, made_of):
        before = copy.deepcopy(made_of)
        rule = Rule(*made_of)
        self.assertEqual(made_of, before)
        self.tells(rule, before)
        return rule

    def tells(self, rule, made_of):
        m, scale, shapes, cuts = made_of
        self.assertIsInstance(rule.frame(), Frame)
        self.assertEqual(rule.frame().size(), m)
        self.assertEqual(rule.scale(), scale)
        self.assertEqual(rule.shapes(), shapes)
        self.assertEqual(rule.cuts(), cuts)
        self.assertIsInstance(rule.scale(), tuple)
        for lists in (rule.shapes(), rule.cuts()):
            self.assertIsInstance(lists, list)
            for inner in lists:
                self.assertIsInstance(inner, list)
                self.assertTrue(all(isinstance(thing, tuple) for thing in inner))


class MadeTest(RulesTest):
    def test_rules_that_lack_nothing(self):
        for name in FULL:
            rule = self.made(full(name))
            m = rule.frame().size()
            self.assertTrue(is_number(m, rule.scale()))
            self.assertTrue(all(is_point(m, corner) for shape in rule.shapes() for corner in shape))

    def test_rules_that_lack_something_are_made_all_the_same(self):
        for m in SIZES:
            for shapes in range(1, 5):
                for parts in range(1, 13):
                    self.made(plain(m, shapes, parts))

    def test_each_kind_turn_and_flip(self):
        for m in SIZES:
            for shapes in range(1, 5):
                for kind in range(shapes):
                    made_of = plain(m, shapes)
                    made_of[3][-1] = [(kind, (turn, flip, ((-1000, 0), (1000, 0))))
                                      for turn in (0, 1, m - 1) for flip in (0, 1)]
                    self.made(made_of)
            made_of = plain(m)
            made_of[3][0] = [(0, (turn, 1, ORIGIN)) for turn in range(m)]
            self.made(made_of)

    def test_shapes_of_three_to_six_corners(self):
        for m in SIZES:
            draw = source(f"{self.id()} {m}")
            self.made([m, (2, 0), [some_shape(draw, m, count) for count in (3, 4, 5, 6)], [[(3, STAY)]] * 4])

    def test_scales_greater_than_1(self):
        for m, (right, wrong) in SCALES.items():
            for scale in right:
                self.assertGreater(decimal_value(m, scale), 1)
                made_of = plain(m)
                made_of[1] = scale
                self.made(made_of)


class RefusedTest(RulesTest):
    def test_no_frame(self):
        for m in (0, 1, 2, 3, 5, 7, 9, 11, 13, 16, 24, -4, -8, 10 ** 59):
            made_of = plain(8)
            made_of[0] = m
            self.refused("NoFrame", made_of)
        for m in (True, None, "8", (8,), [8]):
            self.refused("NoFrame", [m] + plain(8)[1:])

    def test_no_scale(self):
        for m, (right, wrong) in SCALES.items():
            for scale in wrong:
                self.assertLessEqual(decimal_value(m, scale), 1)
                made_of = plain(m)
                made_of[1] = scale
                self.refused("NoScale", made_of)

    def wrong_shapes(self, m):
        draw = source(f"wrong shapes {m}")
        far = ((9, 0), (9, 0))
        yield []
        yield TRIANGLE[:2]
        yield TRIANGLE[:1]
        yield TRIANGLE[::-1]
        yield TRIANGLE + TRIANGLE
        yield TRIANGLE + TRIANGLE[:1]
        yield [ORIGIN, ((1, 0), (0, 0)), ((2, 0), (0, 0))]
        yield [ORIGIN, ((1, 0), (0, 0)), ((2, 0), (0, 0)), far]
        yield [ORIGIN, ((9, 0), (0, 0)), ((1, 0), (1, 0)), ((0, 0), (9, 0))]
        yield [((k, 0), (k * k, 0)) for k in range(7)]
        for count in (4, 5, 6):
            shape = some_shape(draw, m, count)
            yield shape[::-1]
            yield [shape[1], shape[0]] + shape[2:]
            yield shape[:1] + shape[:-1]

    def test_no_shape(self):
        for m in SIZES:
            self.refused("NoShape", [m, (2, 0), [], []])
            self.refused("NoShape", plain(m, shapes=5))
            self.refused("NoShape", plain(m, shapes=9))
            for points in self.wrong_shapes(m):
                for shapes in range(1, 5):
                    for number in range(shapes):
                        made_of = plain(m, shapes)
                        made_of[2][number] = points
                        self.refused("NoShape", made_of)

    def test_another_number_of_cuts_than_shapes(self):
        for m in SIZES:
            for shapes in range(1, 5):
                for cuts in range(7):
                    if cuts != shapes:
                        self.refused("NoCut", plain(m, shapes)[:3] + [[[(0, STAY)]] * cuts])

    def test_too_few_and_too_many_parts(self):
        for m in SIZES:
            for shapes in range(1, 5):
                for number in range(shapes):
                    for parts in (0, 13, 14, 40):
                        made_of = plain(m, shapes)
                        made_of[3][number] = [(0, STAY)] * parts
                        self.refused("NoCut", made_of)

    def wrong_parts(self, m, shapes):
        for kind in (-1, -2, -shapes, shapes, shapes + 1, 10 ** 59, -10 ** 59):
            yield (kind, STAY)
        for turn in (-1, -m, m, m + 1, 2 * m, 10 ** 59, -10 ** 59):
            yield (0, (turn, 0, ORIGIN))
        for flip in (-1, 2, 3, 10 ** 59):
            yield (0, (0, flip, ORIGIN))

    def test_a_part_that_is_none(self):
        for m in SIZES:
            for shapes in (1, 3, 4):
                for wrong in self.wrong_parts(m, shapes):
                    for number in range(shapes):
                        for place in (0, 5, 11):
                            made_of = plain(m, shapes, parts=12)
                            made_of[3][number][place] = wrong
                            self.refused("NoCut", made_of)

    def test_truths_are_no_numbers_of_parts(self):
        for part in ((False, STAY), (0, (False, 0, ORIGIN)), (0, (0, True, ORIGIN))):
            made_of = plain(4)
            made_of[3] = [[part]]
            self.refused("NoCut", made_of)

    def test_the_first_refusal_that_is_due_comes(self):
        wrong = {"NoFrame": (0, [5, 0, 14]), "NoScale": (1, [(1, 0), (0, 0), (-3, 0)]),
                 "NoShape": (2, [[], [TRIANGLE[::-1]], [TRIANGLE] * 5, [TRIANGLE, TRIANGLE[:2]]]),
                 "NoCut": (3, [[], [[]], [[(0, STAY)] * 13], [[(7, STAY)]], [[(0, (0, 2, ORIGIN))]], [[(0, STAY)]] * 6])}
        names = list(wrong)
        for m in SIZES:
            for chosen in range(1, 16):
                due = [name for k, name in enumerate(names) if chosen >> k & 1]
                for choice in range(6):
                    made_of = plain(m)
                    for name in due:
                        place, values = wrong[name]
                        made_of[place] = values[choice % len(values)]
                    self.refused(due[0], made_of)

    def test_a_kind_is_held_against_the_shapes_told(self):
        self.made(plain(6, 2)[:3] + [[[(1, STAY)], [(1, STAY)]]])
        self.refused("NoCut", plain(6, 1)[:3] + [[[(1, STAY)]]])

    def test_a_turn_is_held_against_the_frame(self):
        for m in SIZES:
            for turn in range(14):
                made_of = plain(m)[:3] + [[[(0, (turn, 0, ORIGIN))]]]
                if turn < m:
                    self.made(made_of)
                else:
                    self.refused("NoCut", made_of)


class OwnTest(RulesTest):
    def answers(self, rule):
        last = len(rule.shapes()) - 1
        return [rule.frame().size(), rule.scale(), rule.shapes(), rule.cuts(), lack(rule), greater(rule, last),
                corners(rule, rule.cuts()[last][0]), floor_of(rule, last, 1), piece_at(rule, last, (0, 0)),
                holders(rule, last, 1, ORIGIN)]

    def test_what_is_handed_in_may_be_cleared_behind_the_call(self):
        for name in FULL:
            made_of = full(name)
            due = self.answers(Rule(*full(name)))
            for asked_before in (False, True):
                m, scale, shapes, cuts = made_of = full(name)
                rule = Rule(*made_of)
                if asked_before:
                    self.assertEqual(self.answers(rule), due)
                for lists in (shapes, cuts):
                    for inner in lists:
                        inner.clear()
                self.assertEqual(self.answers(rule), due)
                for lists in (shapes, cuts):
                    lists.clear()
                self.assertEqual(self.answers(rule), due)

    def test_what_is_handed_in_may_be_changed_behind_the_call(self):
        m, scale, shapes, cuts = full("octagonal")
        rule = Rule(m, scale, shapes, cuts)
        shapes[0][0] = ((7, 7), (7, 7))
        shapes[1] = list(TRIANGLE)
        shapes.append(list(TRIANGLE))
        cuts[0][0] = (9, STAY)
        cuts[1].append((0, STAY))
        cuts.reverse()
        self.tells(rule, full("octagonal"))
        self.assertIsNone(lack(rule))

    def test_what_is_told_may_be_cleared(self):
        for name in FULL:
            rule = Rule(*full(name))
            due = copy.deepcopy(self.answers(rule))
            for asked in range(2):
                for lists in (rule.shapes(), rule.cuts()):
                    for inner in lists:
                        inner.clear()
                    lists.clear()
                told = self.answers(rule)
                for thing in told:
                    if isinstance(thing, list):
                        thing.clear()
                self.assertEqual(self.answers(rule), due)

    def test_what_was_told_stays(self):
        rule = Rule(*full("golden in three and two"))
        first = self.answers(rule)
        before = copy.deepcopy(first)
        again = self.answers(rule)
        for one, other in zip(first, again):
            if isinstance(one, list):
                self.assertIsNot(one, other)
        for lists in (again[2], again[3]):
            for inner in lists:
                inner.append("more")
            lists.append("more")
        self.assertEqual(first, before)

    def test_lists_handed_in_twice_are_told_as_two(self):
        shape, cut = list(TRIANGLE), [(0, STAY)]
        rule = Rule(6, (2, 0), [shape, shape], [cut, cut])
        shapes, cuts = rule.shapes(), rule.cuts()
        shapes[0].clear()
        cuts[0].clear()
        self.assertEqual((shapes[1], cuts[1]), (TRIANGLE, [(0, STAY)]))
        self.tells(rule, (6, (2, 0), [TRIANGLE] * 2, [[(0, STAY)]] * 2))

    def test_rules_do_not_disturb_each_other(self):
        names = sorted(FULL)
        alone = [self.answers(Rule(*full(name))) for name in names]
        rules = [Rule(*full(name)) for name in names]
        for turn in range(2):
            self.assertEqual([self.answers(rule) for rule in rules], alone)
            with self.assertRaises(errors.NoCut):
                Rule(4, (2, 0), [TRIANGLE], [])
            self.assertEqual([self.answers(rule) for rule in reversed(rules)], alone[::-1])

    def test_a_rule_may_be_made_of_what_another_tells(self):
        draw = source(self.id())
        for name in FULL:
            rule = Rule(*redrawn(draw, read(FULL[name])))
            second = Rule(rule.frame().size(), rule.scale(), rule.shapes(), rule.cuts())
            self.assertEqual(self.answers(second), self.answers(rule))


if __name__ == "__main__":
    unittest.main()
