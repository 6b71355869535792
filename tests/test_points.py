import copy
import unittest

from inflate.frames import Frame, minus
from inflate.points import added, back, cross, joined, mirrored, moved, scaled, turned
from tests.helper import (SIZES, answers_side_by_side, in_plane, is_move, is_number, is_point, is_whole,
                          plane_moved, plane_side, plane_turned, rooted, rooted_product, same_place, some_move,
                          some_number, some_point, some_whole, source)

ROUNDS = 40
ORIGIN = ((0, 0), (0, 0))
ONE = ((1, 0), (0, 0))
Z = ((0, 0), (1, 0))
STAY = (0, 0, ORIGIN)


class PointsTest(unittest.TestCase):
    def each_frame(self):
        for m in SIZES:
            yield m, Frame(m), source(f"{self.id()} {m}")

    def at(self, m, point, place):
        self.assertTrue(is_point(m, point), point)
        self.assertTrue(same_place(in_plane(m, point), place), (m, point))


class TurnedTest(PointsTest):
    def test_turned_once_as_written(self):
        point = ((2, 0), (3, 0))
        self.assertEqual(turned(Frame(4), point, 1), ((-3, 0), (2, 0)))
        self.assertEqual(turned(Frame(6), point, 1), ((-3, 0), (5, 0)))
        point = ((2, 5), (3, -7))
        self.assertEqual(turned(Frame(8), point, 1), ((-3, 7), (-12, 8)))
        self.assertEqual(turned(Frame(10), point, 1), ((-3, 7), (-5, 1)))
        self.assertEqual(turned(Frame(12), point, 1), ((-3, 7), (-19, 8)))

    def test_one_goes_all_around(self):
        for m, frame, draw in self.each_frame():
            around = [turned(frame, ONE, r) for r in range(m)]
            self.assertEqual(around[1], Z)
            self.assertEqual(around[m // 2], ((-1, 0), (0, 0)))
            self.assertEqual(len(set(around)), m)

    def test_turned_a_few_times_either_way(self):
        for m, frame, draw in self.each_frame():
            for r in range(-2 * m - 3, 2 * m + 4):
                point = some_point(draw, m)
                self.at(m, turned(frame, point, r), plane_turned(m, in_plane(m, point), r))

    def test_m_times_is_none(self):
        for m, frame, draw in self.each_frame():
            for r in (0, m, -m, 5 * m, -7 * m, m * (10 ** 58 + 1), -m * (10 ** 58 + 1)):
                point = some_point(draw, m)
                self.assertEqual(turned(frame, point, r), point)

    def test_turned_very_many_times(self):
        for m, frame, draw in self.each_frame():
            for rest in range(m):
                point = some_point(draw, m)
                few = turned(frame, point, rest)
                for rounds in (10 ** 58 + 7, -10 ** 58 - 7, some_whole(draw) // m):
                    self.assertEqual(turned(frame, point, rounds * m + rest), few)

    def test_turned_back(self):
        for m, frame, draw in self.each_frame():
            for _ in range(ROUNDS):
                point, r = some_point(draw, m), some_whole(draw)
                self.assertEqual(turned(frame, turned(frame, point, r), -r), point)


class MirroredTest(PointsTest):
    def test_mirrored_as_written(self):
        point = ((2, 0), (3, 0))
        self.assertEqual(mirrored(Frame(4), point), ((2, 0), (-3, 0)))
        self.assertEqual(mirrored(Frame(6), point), ((5, 0), (-3, 0)))
        point = ((2, 5), (3, -7))
        self.assertEqual(mirrored(Frame(8), point), ((-12, 8), (-3, 7)))
        self.assertEqual(mirrored(Frame(10), point), ((-5, 1), (-3, 7)))
        self.assertEqual(mirrored(Frame(12), point), ((-19, 8), (-3, 7)))

    def test_0_and_1_stay(self):
        for m, frame, draw in self.each_frame():
            self.assertEqual(mirrored(frame, ORIGIN), ORIGIN)
            self.assertEqual(mirrored(frame, ONE), ONE)
            self.assertEqual(mirrored(frame, Z), turned(frame, ONE, -1))

    def test_above_comes_below(self):
        for m, frame, draw in self.each_frame():
            for _ in range(ROUNDS):
                point = some_point(draw, m)
                right, up = in_plane(m, point)
                self.at(m, mirrored(frame, point), (right, -up))
                self.assertEqual(mirrored(frame, mirrored(frame, point)), point)


class AddedAndScaledTest(PointsTest):
    def test_added_as_written(self):
        self.assertEqual(added(((1, 2), (3, 4)), ((10, -20), (-30, 40))), ((11, -18), (-27, 44)))

    def test_added(self):
        for m, frame, draw in self.each_frame():
            for _ in range(ROUNDS):
                one, other = some_point(draw, m), some_point(draw, m)
                self.at(m, added(one, other), plane_moved(m, (0, 0, other), in_plane(m, one)))
                self.assertEqual(added(one, ORIGIN), one)
                self.assertEqual(added(one, other), added(other, one))

    def test_scaled_as_written(self):
        self.assertEqual(scaled(Frame(4), ((2, 0), (-3, 0)), (-5, 0)), ((-10, 0), (15, 0)))
        self.assertEqual(scaled(Frame(6), ((2, 0), (-3, 0)), (-5, 0)), ((-10, 0), (15, 0)))
        self.assertEqual(scaled(Frame(8), ((2, 5), (3, -7)), (1, 1)), ((12, 7), (-11, -4)))
        self.assertEqual(scaled(Frame(10), ((2, 5), (3, -7)), (1, 1)), ((7, 12), (-4, -11)))
        self.assertEqual(scaled(Frame(12), ((2, 5), (3, -7)), (1, 1)), ((17, 7), (-18, -4)))

    def test_scaled(self):
        for m, frame, draw in self.each_frame():
            for _ in range(ROUNDS):
                point, number = some_point(draw, m), some_number(draw, m)
                answer = scaled(frame, point, number)
                self.assertTrue(is_point(m, answer))
                for part, told in zip(point, answer):
                    self.assertEqual(rooted(m, told), rooted_product(m, rooted(m, part), rooted(m, number)))
                self.assertEqual(scaled(frame, point, (1, 0)), point)
                self.assertEqual(scaled(frame, point, (0, 0)), ORIGIN)


class MovesTest(PointsTest):
    def test_moved_as_written(self):
        off = ((100, 0), (200, 0))
        point = ((2, 0), (3, 0))
        self.assertEqual(moved(Frame(4), (1, 0, off), point), ((97, 0), (202, 0)))
        self.assertEqual(moved(Frame(4), (1, 1, off), point), ((103, 0), (202, 0)))
        self.assertEqual(moved(Frame(6), (1, 1, off), point), ((103, 0), (202, 0)))
        self.assertEqual(moved(Frame(6), (0, 1, off), point), ((105, 0), (197, 0)))

    def test_mirrored_then_turned_then_added(self):
        for m, frame, draw in self.each_frame():
            for turn in range(m):
                for flip in (0, 1):
                    move, point = (turn, flip, some_point(draw, m)), some_point(draw, m)
                    answer = moved(frame, move, point)
                    self.at(m, answer, plane_moved(m, move, in_plane(m, point)))
                    first = mirrored(frame, point) if flip else point
                    self.assertEqual(answer, added(turned(frame, first, turn), move[2]))

    def test_joined_takes_points_as_one_by_one(self):
        for m, frame, draw in self.each_frame():
            for first_turn in range(m):
                for second_turn in range(m):
                    for flips in range(4):
                        first = (first_turn, flips % 2, some_point(draw, m))
                        second = (second_turn, flips // 2, some_point(draw, m))
                        both = joined(frame, first, second)
                        self.assertTrue(is_move(m, both), both)
                        for point in (ORIGIN, ONE, Z, some_point(draw, m)):
                            one_by_one = moved(frame, second, moved(frame, first, point))
                            self.assertEqual(moved(frame, both, point), one_by_one)

    def test_joined_in_threes(self):
        for m, frame, draw in self.each_frame():
            for _ in range(ROUNDS):
                one, two, three = [some_move(draw, m) for _ in range(3)]
                self.assertEqual(joined(frame, joined(frame, one, two), three),
                                 joined(frame, one, joined(frame, two, three)))
                self.assertEqual(joined(frame, one, STAY), one)
                self.assertEqual(joined(frame, STAY, one), one)

    def test_back_takes_points_back(self):
        for m, frame, draw in self.each_frame():
            for turn in range(m):
                for flip in (0, 1):
                    move = (turn, flip, some_point(draw, m))
                    way_back = back(frame, move)
                    self.assertTrue(is_move(m, way_back), way_back)
                    for point in (ORIGIN, ONE, Z, some_point(draw, m)):
                        self.assertEqual(moved(frame, way_back, moved(frame, move, point)), point)
                        self.assertEqual(moved(frame, move, moved(frame, way_back, point)), point)
                    self.assertEqual(joined(frame, move, way_back), STAY)
                    self.assertEqual(joined(frame, way_back, move), STAY)
                    self.assertEqual(back(frame, way_back), move)


class CrossTest(PointsTest):
    def test_cross_as_written(self):
        self.assertEqual(cross(Frame(4), ((2, 0), (3, 0)), ((5, 0), (7, 0))), (-1, 0))
        self.assertEqual(cross(Frame(6), ((2, 0), (3, 0)), ((5, 0), (7, 0))), (-1, 0))
        self.assertEqual(cross(Frame(8), ((1, 1), (2, 0)), ((0, 1), (3, -1))), (1, 0))
        self.assertEqual(cross(Frame(10), ((1, 1), (2, 0)), ((0, 1), (3, -1))), (2, -1))
        self.assertEqual(cross(Frame(12), ((1, 1), (2, 0)), ((0, 1), (3, -1))), (0, 0))

    def test_cross(self):
        for m, frame, draw in self.each_frame():
            for _ in range(ROUNDS):
                one, other = some_point(draw, m), some_point(draw, m)
                (x, y), (u, v) = [[rooted(m, part) for part in point] for point in (one, other)]
                ahead, behind = rooted_product(m, x, v), rooted_product(m, y, u)
                answer = cross(frame, one, other)
                self.assertTrue(is_number(m, answer))
                self.assertEqual(rooted(m, answer), (ahead[0] - behind[0], ahead[1] - behind[1]))
                self.assertEqual(cross(frame, other, one), minus((0, 0), answer))
                self.assertEqual(cross(frame, one, one), (0, 0))

    def test_moves_keep_the_cross_or_turn_it_about(self):
        for m, frame, draw in self.each_frame():
            for _ in range(ROUNDS):
                one, other, turn = some_point(draw, m), some_point(draw, m), draw.randrange(m)
                answer = cross(frame, one, other)
                both = [turned(frame, point, turn) for point in (one, other)]
                self.assertEqual(cross(frame, *both), answer)
                both = [mirrored(frame, point) for point in (one, other)]
                self.assertEqual(cross(frame, *both), minus((0, 0), answer))

    def test_sign_of_turned_ones(self):
        for m, frame, draw in self.each_frame():
            for r in range(m):
                sign = frame.sign(cross(frame, ONE, turned(frame, ONE, r)))
                self.assertTrue(is_whole(sign))
                self.assertEqual(sign, 0 if r in (0, m // 2) else 1 if r < m // 2 else -1)

    def test_sign_tells_left_and_right(self):
        for m, frame, draw in self.each_frame():
            for _ in range(ROUNDS):
                one, other = some_point(draw, m), some_point(draw, m)
                side = plane_side(in_plane(m, one), in_plane(m, other))
                self.assertEqual(frame.sign(cross(frame, one, other)), side)
                number = some_number(draw, m)
                self.assertEqual(frame.sign(cross(frame, one, scaled(frame, one, number))), 0)

    def test_sign_where_only_exact_reckoning_tells(self):
        for m, small in ((8, (-1, 1)), (10, (-1, 1)), (12, (2, -1))):
            frame = Frame(m)
            for n in range(61):
                slight = (ORIGIN[0], frame.power(small, n))
                for far in (ONE, ((10 ** 60 - 1, 10 ** 60 - 1), (0, 0))):
                    self.assertEqual(frame.sign(cross(frame, far, added(far, slight))), 1)
                    self.assertEqual(frame.sign(cross(frame, added(far, slight), far)), -1)


class OwnTest(PointsTest):
    def answers(self, frame):
        one = (frame.number(3, 2), frame.number(-1, 4))
        other = (frame.number(0, -5), frame.number(6, 1))
        move, next_move = (1, 1, other), (frame.size() - 1, 0, one)
        return [turned(frame, one, 3), mirrored(frame, one), scaled(frame, one, other[1]), moved(frame, move, one),
                joined(frame, move, next_move), back(frame, move), back(frame, next_move), cross(frame, one, other)]

    def test_frames_do_not_disturb_each_other(self):
        for told, due in answers_side_by_side(Frame, self.answers):
            self.assertEqual(told, due)

    def test_nothing_handed_in_is_changed(self):
        for m, frame, draw in self.each_frame():
            one, other = some_point(draw, m), some_point(draw, m)
            move, next_move = some_move(draw, m), some_move(draw, m)
            before = copy.deepcopy((one, other, move, next_move))
            size_before = frame.size()
            turned(frame, one, -5)
            mirrored(frame, one)
            added(one, other)
            scaled(frame, one, other[0])
            moved(frame, move, one)
            joined(frame, move, next_move)
            back(frame, move)
            cross(frame, one, other)
            self.assertEqual((one, other, move, next_move), before)
            self.assertEqual(frame.size(), size_before)


if __name__ == "__main__":
    unittest.main()
