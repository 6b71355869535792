import copy
import unittest
from decimal import Decimal
from fractions import Fraction

from inflate import errors
from inflate.frames import Frame, minus, plus
from tests.helper import (SIZES, answers_side_by_side, is_number, is_whole, rooted, rooted_power,
                          rooted_product, rooted_sign, some_number, some_whole, source)

ROUNDS = 150
# In each frame that has one: a number between 0 and 1 all of whose powers are near to 0.
SMALL = {8: (-1, 1), 10: (-1, 1), 12: (2, -1)}
OTHER_REFUSALS = ("NoScale", "NoShape", "NoCut", "NoKind", "NoAddress", "NoShares", "NoText", "NoRow", "TooMany",
                  "NoFill")


class FrameTest(unittest.TestCase):
    def refused(self, m):
        before = copy.deepcopy(m)
        with self.assertRaises(errors.NoFrame, msg=repr(m)) as taken:
            Frame(m)
        self.assertIsInstance(taken.exception, errors.FloorError)
        self.assertIsInstance(taken.exception, ValueError)
        for name in OTHER_REFUSALS:
            self.assertNotIsInstance(taken.exception, getattr(errors, name))
        self.assertEqual(m, before)

    def test_just_five_small_numbers_make_a_frame(self):
        for m in range(-40, 41):
            if m in SIZES:
                size = Frame(m).size()
                self.assertEqual(size, m)
                self.assertTrue(is_whole(size))
            else:
                self.refused(m)

    def test_numbers_of_many_figures_make_none(self):
        for figures in range(2, 61):
            for m in SIZES:
                self.refused(10 ** (figures - 1) + m)
                self.refused(-10 ** (figures - 1) - m)
                self.refused(2 ** 64 * figures + m)
        self.refused(10 ** 60 - 1)
        self.refused(1 - 10 ** 60)

    def test_other_things_make_none(self):
        things = [True, False, None, "", "8", "eight", b"8", [], [8], (), (8,), (8, 0), {}, {8: 8}, {8}, frozenset([8]),
                  range(8), [4, 6, 8, 10, 12], Frame, len]
        for m in SIZES:
            things += [str(m), [m], (m,), {m: m}, float(m), complex(m), Fraction(m), Decimal(m), m + 0.5]
        for thing in things:
            self.refused(thing)
        with self.assertRaises(errors.NoFrame):
            Frame(Frame(8))


class NumberTest(unittest.TestCase):
    def each_frame(self):
        for m in SIZES:
            yield m, Frame(m), source(f"{self.id()} {m}")

    def test_made_of_any_two(self):
        for a, b in ((0, 0), (1, 0), (0, 1), (5, -3), (-2, 7), (10 ** 60 - 1, 1 - 10 ** 60)):
            self.assertEqual(Frame(4).number(a, b), (a, 0))
            self.assertEqual(Frame(6).number(a, b), (a + b, 0))
            for m in (8, 10, 12):
                self.assertEqual(Frame(m).number(a, b), (a, b))

    def test_made_ones_stand_for_what_they_are_made_of(self):
        for m, frame, draw in self.each_frame():
            for _ in range(ROUNDS):
                a, b = some_whole(draw), some_whole(draw)
                made = frame.number(a, b)
                self.assertTrue(is_number(m, made))
                self.assertEqual(rooted(m, made), rooted(m, (a, b)))

    def test_unlike_tuples_stand_for_unlike_numbers(self):
        for m, frame, draw in self.each_frame():
            made = {}
            for a in range(-6, 7):
                for b in range(-6, 7):
                    made.setdefault(rooted(m, (a, b)), set()).add(frame.number(a, b))
            self.assertTrue(all(len(tuples) == 1 for tuples in made.values()))
            self.assertEqual(len(set.union(*made.values())), len(made))

    def test_w_solves_its_equation(self):
        w = {m: Frame(m).number(0, 1) for m in SIZES}
        self.assertEqual(Frame(4).times(w[4], w[4]), (0, 0))
        self.assertEqual(w[6], (1, 0))
        self.assertEqual(Frame(8).times(w[8], w[8]), (2, 0))
        self.assertEqual(Frame(10).times(w[10], w[10]), plus(w[10], (1, 0)))
        self.assertEqual(Frame(12).times(w[12], w[12]), (3, 0))

    def test_w_lies_where_it_should(self):
        for m, low, high in ((8, 1414213, 1414214), (10, 1618033, 1618034), (12, 1732050, 1732051)):
            frame = Frame(m)
            self.assertTrue(frame.less((low, 0), (0, 1000000)))
            self.assertTrue(frame.less((0, 1000000), (high, 0)))

    def test_sums_and_differences(self):
        self.assertEqual(plus((1, 2), (10, -20)), (11, -18))
        self.assertEqual(minus((1, 2), (10, -20)), (-9, 22))
        for m, frame, draw in self.each_frame():
            for _ in range(ROUNDS):
                one, other = some_number(draw, m), some_number(draw, m)
                (u, v), (s, t) = rooted(m, one), rooted(m, other)
                total, rest = plus(one, other), minus(one, other)
                self.assertTrue(is_number(m, total) and is_number(m, rest))
                self.assertEqual(rooted(m, total), (u + s, v + t))
                self.assertEqual(rooted(m, rest), (u - s, v - t))

    def test_some_products(self):
        self.assertEqual(Frame(4).times((-7, 0), (6, 0)), (-42, 0))
        self.assertEqual(Frame(6).times((-7, 0), (6, 0)), (-42, 0))
        self.assertEqual(Frame(8).times((1, 1), (-1, 1)), (1, 0))
        self.assertEqual(Frame(8).times((3, 2), (5, -7)), (-13, -11))
        self.assertEqual(Frame(10).times((0, 1), (-1, 1)), (1, 0))
        self.assertEqual(Frame(10).times((3, 2), (5, -7)), (1, -25))
        self.assertEqual(Frame(12).times((2, 1), (2, -1)), (1, 0))
        self.assertEqual(Frame(12).times((3, 2), (5, -7)), (-27, -11))

    def test_products(self):
        for m, frame, draw in self.each_frame():
            for _ in range(ROUNDS):
                one, other = some_number(draw, m), some_number(draw, m)
                product = frame.times(one, other)
                self.assertTrue(is_number(m, product))
                self.assertEqual(rooted(m, product), rooted_product(m, rooted(m, one), rooted(m, other)))
                self.assertEqual(frame.times(one, (1, 0)), one)
                self.assertEqual(frame.times((0, 0), one), (0, 0))

    def test_powers_from_0_to_60(self):
        for m, frame, draw in self.each_frame():
            bases = [(0, 0), (1, 0), (-1, 0), (2, 0), frame.number(0, 1), frame.number(3, -2), (10 ** 60 - 1, 0)]
            bases += [some_number(draw, m) for _ in range(4)]
            bases.append(frame.number(1 - 10 ** 60, 10 ** 60 - 1))
            for base in bases:
                for n in range(61):
                    power = frame.power(base, n)
                    self.assertTrue(is_number(m, power))
                    self.assertEqual(rooted(m, power), rooted_power(m, rooted(m, base), n))

    def test_the_power_0_is_1(self):
        for m, frame, draw in self.each_frame():
            for base in ((0, 0), (1, 0), (-5, 0), some_number(draw, m)):
                self.assertEqual(frame.power(base, 0), (1, 0))

    def test_powers_somewhat_beyond_60_are_not_refused(self):
        self.assertEqual(Frame(8).power((0, 1), 64), (2 ** 32, 0))
        self.assertEqual(Frame(4).power((2, 0), 100), (2 ** 100, 0))


class SignTest(unittest.TestCase):
    def held(self, m, number):
        sign = Frame(m).sign(number)
        self.assertTrue(is_whole(sign))
        self.assertEqual(sign, rooted_sign(m, rooted(m, number)), (m, number))

    def test_small_numbers(self):
        for m in SIZES:
            for a in range(-12, 13):
                for b in range(-12, 13) if m in SMALL else (0,):
                    self.held(m, (a, b))

    def test_numbers_of_many_figures(self):
        for m in SIZES:
            draw = source(f"signs {m}")
            for _ in range(ROUNDS):
                self.held(m, some_number(draw, m))

    def test_powers_that_come_near_to_0(self):
        for m, small in SMALL.items():
            frame = Frame(m)
            below = minus((0, 0), small)
            for n in range(61):
                self.assertEqual(frame.sign(frame.power(small, n)), 1)
                self.assertEqual(frame.sign(frame.power(below, n)), -1 if n % 2 else 1)
                self.assertEqual(frame.sign(minus((0, 0), frame.power(small, n))), -1)

    def test_the_nearest_of_sixty_figures(self):
        for m, small in SMALL.items():
            frame = Frame(m)
            number = (1, 0)
            while max(abs(part) for part in number) < 10 ** 59:
                number = frame.times(number, small)
            self.assertEqual(frame.sign(number), 1)
            self.assertEqual(frame.sign(minus((0, 0), number)), -1)
            for a in (-1, 0, 1):
                for b in (-1, 0, 1):
                    self.held(m, plus(number, (a, b)))
                    self.held(m, minus((a, b), number))

    def test_less(self):
        for m in SIZES:
            frame = Frame(m)
            draw = source(f"less {m}")
            for _ in range(ROUNDS):
                one, other = some_number(draw, m), some_number(draw, m)
                sign = rooted_sign(m, rooted(m, minus(other, one)))
                self.assertIs(frame.less(one, other), sign == 1)
                self.assertIs(frame.less(other, one), sign == -1)
                self.assertIs(frame.less(one, one), False)

    def test_less_of_powers_that_come_near_to_0(self):
        for m, small in SMALL.items():
            frame = Frame(m)
            powers = [frame.power(small, n) for n in range(61)]
            for n in range(60):
                self.assertIs(frame.less(powers[n + 1], powers[n]), True)
                self.assertIs(frame.less(powers[n], powers[n + 1]), False)
                self.assertIs(frame.less((0, 0), powers[n]), True)
                self.assertIs(frame.less(powers[n], (0, 0)), False)
                self.assertIs(frame.less(minus((0, 0), powers[n]), powers[60]), True)


class OwnTest(unittest.TestCase):
    def answers(self, frame):
        one, other = frame.number(3, 2), frame.number(5, -7)
        return [frame.size(), one, other, frame.times(one, other), frame.power(other, 9), frame.sign(other),
                frame.less(one, other)]

    def test_frames_do_not_disturb_each_other(self):
        for told, due in answers_side_by_side(Frame, self.answers):
            self.assertEqual(told, due)

    def test_a_refusal_disturbs_no_frame(self):
        for m in SIZES:
            frame = Frame(m)
            before = self.answers(frame)
            for wrong in (5, None, [m]):
                with self.assertRaises(errors.NoFrame):
                    Frame(wrong)
            self.assertEqual(self.answers(frame), before)

    def test_nothing_handed_in_is_changed(self):
        for m in SIZES:
            frame = Frame(m)
            one, other = frame.number(3, 2), frame.number(5, -7)
            before = copy.deepcopy((one, other))
            for call in (plus, minus, frame.times, frame.less):
                call(one, other)
            frame.power(one, 7)
            frame.sign(other)
            self.assertEqual((one, other), before)


if __name__ == "__main__":
    unittest.main()
