import copy
import unittest

from inflate.frames import Frame, minus, plus
from inflate.points import added, back, moved, scaled, turned
from inflate.shapes import are_apart, is_shape, side_between, twice, where
from tests.helper import (NEAR, SIZES, decimal_sine, decimal_value, goes_around, in_plane, is_number, is_point, is_whole,
                          plane_area, plane_common, plane_side_between, plane_where, rooted, rooted_sign, same_place,
                          some_move, some_point, some_shape, some_small, source)

ORIGIN = ((0, 0), (0, 0))
ONE = ((1, 0), (0, 0))
COUNTS = (3, 4, 5, 6)
# In each frame a number between 0 and 1 whose powers are near to 0, or just 1.
SLIGHT = {4: (1, 0), 6: (1, 0), 8: (-1, 1), 10: (-1, 1), 12: (2, -1)}


def whole(number):
    return (number, 0)


def lessened(one, other):
    return (minus(one[0], other[0]), minus(one[1], other[1]))


def doubled(frame, shape):
    """Made twice as great: then the sum of two corners is the point amid them."""
    return [scaled(frame, corner, (2, 0)) for corner in shape]


def amid(shape):
    """As many times the point amid all corners as there are corners."""
    answer = ORIGIN
    for corner in shape:
        answer = added(answer, corner)
    return answer


def put(frame, move, shape):
    corners = [moved(frame, move, corner) for corner in shape]
    return corners[::-1] if move[1] else corners


def begun(shape, k):
    return shape[k:] + shape[:k]


def box(low, high):
    """From low to high along 1 and along z, each told as (x, y)."""
    return [low, (high[0], low[1]), high, (low[0], high[1])]


def small_box(x, y, wide, high):
    return box((whole(x), whole(y)), (whole(x + wide), whole(y + high)))


def around(frame, lengths):
    """The corner points when one goes so far, turning each time by one step."""
    points = [ORIGIN]
    for r, length in enumerate(lengths):
        points.append(added(points[-1], scaled(frame, turned(frame, ONE, r), length)))
    return points


class ShapesTest(unittest.TestCase):
    def each_frame(self):
        for m in SIZES:
            yield m, Frame(m), source(f"{self.id()} {m}")

    def each_shape(self, each=3):
        for m, frame, draw in self.each_frame():
            for count in COUNTS:
                for _ in range(each):
                    yield m, frame, draw, some_shape(draw, m, count)


class IsShapeTest(ShapesTest):
    def told(self, frame, points, due):
        for k in range(max(1, len(points))):
            self.assertIs(is_shape(frame, begun(points, k)), due, (frame.size(), points))

    def test_shapes_as_written(self):
        for m, frame, draw in self.each_frame():
            z = turned(frame, ONE, 1)
            self.told(frame, [ORIGIN, ONE, z], True)
            self.told(frame, [ORIGIN, ONE, added(ONE, z), z], True)
            self.told(frame, [ORIGIN, z, ONE], False)
            self.told(frame, [ORIGIN, ONE, z, added(ONE, z)], False)
        hexagon = around(Frame(6), [(1, 0)] * 5)
        self.told(Frame(6), hexagon, True)
        self.told(Frame(6), hexagon[:5], True)
        pentagon = [turned(Frame(10), ONE, 2 * k) for k in range(5)]
        self.told(Frame(10), pentagon, True)

    def test_shapes_of_each_frame_begun_at_each_corner(self):
        for m, frame, draw, shape in self.each_shape():
            self.told(frame, shape, True)

    def test_shapes_far_away_and_very_great(self):
        for m, frame, draw, shape in self.each_shape(each=1):
            far = (0, 0, some_point(draw, m))
            self.told(frame, put(frame, far, shape), True)
            great = [scaled(frame, corner, (10 ** 50 + 7, 0)) for corner in shape]
            self.told(frame, great, True)
            self.told(frame, great[::-1], False)

    def test_turned_about(self):
        for m, frame, draw, shape in self.each_shape():
            self.told(frame, shape[::-1], False)
            move = (1, 1, some_point(draw, m))
            mirror_image = [moved(frame, move, corner) for corner in shape]
            self.told(frame, mirror_image, False)
            self.told(frame, mirror_image[::-1], True)

    def test_with_a_corner_twice(self):
        for m, frame, draw, shape in self.each_shape(each=1):
            for k, corner in enumerate(shape):
                for place in range(len(shape) + 1):
                    self.told(frame, shape[:place] + [corner] + shape[place:], False)
                for other in range(len(shape)):
                    if other != k:
                        self.told(frame, shape[:other] + [corner] + shape[other + 1:], False)

    def test_with_a_point_amid_a_side(self):
        for m, frame, draw, shape in self.each_shape():
            great = doubled(frame, shape)
            for k in range(len(shape)):
                point = added(shape[k - 1], shape[k])
                # Behind the corner ahead of it, so that the points go around all the same.
                self.told(frame, great[:k] + [point] + great[k:], False)
                if len(shape) == 3:
                    self.told(frame, [great[k - 1], point, great[k]], False)

    def test_with_two_corners_exchanged(self):
        for m, frame, draw, shape in self.each_shape():
            for one in range(len(shape)):
                for other in range(one):
                    points = list(shape)
                    points[one], points[other] = shape[other], shape[one]
                    self.told(frame, points, False)

    def test_too_few_points(self):
        for m, frame, draw, shape in self.each_shape(each=1):
            self.told(frame, shape[:2], False)
            self.told(frame, shape[:1], False)
        for m, frame, draw in self.each_frame():
            self.told(frame, [], False)
            self.told(frame, [ORIGIN] * 3, False)

    def test_too_many_points(self):
        for m in (8, 10, 12):
            frame = Frame(m)
            points = [turned(frame, ONE, r) for r in range(m)]
            self.told(frame, points, False)
            self.told(frame, points[:7], False)
            self.told(frame, points[:6], True)
        for m, frame, draw in self.each_frame():
            # Seven corners of a curve that bends to the left all the way.
            bend = [(whole(k), whole(k * k)) for k in range(-3, 4)]
            self.told(frame, bend, False)
            self.told(frame, bend[1:], True)

    def test_twice_round(self):
        for m, frame, draw in self.each_frame():
            triangle = some_shape(draw, m, 3)
            self.told(frame, triangle + triangle, False)
        for m, frame, draw, shape in self.each_shape(each=1):
            if len(shape) == 5:
                self.told(frame, [shape[2 * k % 5] for k in range(5)], False)
        pentagon = [turned(Frame(10), ONE, 4 * k) for k in range(5)]
        self.told(Frame(10), pentagon, False)
        # Six points that go around twice, at each one to the left.
        for m in (8, 10, 12):
            frame = Frame(m)
            points = [turned(frame, ONE, 0), turned(frame, ONE, m // 3), turned(frame, ONE, 2 * m // 3)]
            self.told(frame, points + [turned(frame, point, 1) for point in points], False)

    def test_with_bays(self):
        for m, frame, draw, shape in self.each_shape():
            if len(shape) > 3:
                count = len(shape)
                great = [scaled(frame, corner, whole(count)) for corner in shape]
                for k in range(count):
                    # The point amid may lie on either hand of the line between the corner's neighbours.
                    points = great[:k] + [amid(shape)] + great[k + 1:]
                    self.told(frame, points, goes_around(m, points))
                    if count < 6:
                        self.told(frame, great[:k] + [amid(shape)] + great[k:], False)
        bay = [ORIGIN, ((4, 0), (0, 0)), ((1, 0), (1, 0)), ((0, 0), (4, 0))]
        for m, frame, draw in self.each_frame():
            self.told(frame, bay, False)

    def test_a_corner_that_is_nearly_amid_a_side(self):
        for m in (8, 10, 12):
            frame = Frame(m)
            for n in (1, 5, 20, 60):
                slight = frame.power(SLIGHT[m], n)
                out, into = ((1, 0), minus((0, 0), slight)), ((1, 0), slight)
                self.told(frame, [ORIGIN, out, ((2, 0), (0, 0)), ((0, 0), (2, 0))], True)
                self.told(frame, [ORIGIN, into, ((2, 0), (0, 0)), ((0, 0), (2, 0))], False)

    def test_any_lists_of_points(self):
        for m, frame, draw in self.each_frame():
            seen = {True: 0, False: 0}
            for _ in range(400):
                points = [(whole(draw.randrange(-2, 3)), whole(draw.randrange(-2, 3)))
                          for _ in range(draw.randrange(3, 8))]
                due = 3 <= len(points) <= 6 and goes_around(m, points)
                seen[due] += 1
                self.assertIs(is_shape(frame, points), due, (m, points))
            self.assertGreater(min(seen.values()), 10)


class TwiceTest(ShapesTest):
    def test_as_written(self):
        for m, frame, draw in self.each_frame():
            self.assertEqual(twice(frame, [ORIGIN, ONE, turned(frame, ONE, 1)]), (1, 0))
            self.assertEqual(twice(frame, small_box(3, -4, 2, 5)), (20, 0))
        self.assertEqual(twice(Frame(6), around(Frame(6), [(1, 0)] * 5)), (6, 0))
        for m, due in ((8, (2, 0)), (10, (1, 1)), (12, (3, 0))):
            self.assertEqual(twice(Frame(m), [ORIGIN, ((0, 1), (0, 0)), ((0, 0), (0, 1))]), due)

    def test_it_tells_the_area(self):
        for m, frame, draw, shape in self.each_shape():
            number = twice(frame, shape)
            self.assertTrue(is_number(m, number))
            self.assertEqual(rooted_sign(m, rooted(m, number)), 1)
            area = plane_area([in_plane(m, corner) for corner in shape])
            self.assertLess(abs(decimal_value(m, number) * decimal_sine(m) - area), NEAR)

    def test_put_elsewhere_and_begun_elsewhere(self):
        for m, frame, draw, shape in self.each_shape():
            number = twice(frame, shape)
            for k in range(len(shape)):
                self.assertEqual(twice(frame, begun(shape, k)), number)
            self.assertEqual(twice(frame, put(frame, (0, 0, some_point(draw, m)), shape)), number)
            self.assertEqual(twice(frame, put(frame, some_move(draw, m), shape)), number)

    def test_the_two_parts_of_a_diagonal(self):
        for m, frame, draw, shape in self.each_shape():
            number = twice(frame, shape)
            for one in range(len(shape)):
                for other in range(one + 2, len(shape) - (one == 0)):
                    parts = [shape[one:other + 1], shape[other:] + shape[:one + 1]]
                    for part in parts:
                        self.assertIs(is_shape(frame, part), True)
                    self.assertEqual(plus(*[twice(frame, part) for part in parts]), number)

    def test_greater_by_a_number(self):
        for m, frame, draw, shape in self.each_shape():
            number = some_small(draw, m)
            great = [scaled(frame, corner, number) for corner in shape]
            self.assertEqual(twice(frame, great), frame.times(twice(frame, shape), frame.power(number, 2)))


class WhereTest(ShapesTest):
    def told(self, frame, shape, point, due):
        for k in range(len(shape)):
            answer = where(frame, begun(shape, k), point)
            self.assertTrue(is_whole(answer))
            self.assertEqual(answer, due, (frame.size(), shape, point))

    def test_as_written(self):
        for m, frame, draw in self.each_frame():
            shape = small_box(0, 0, 4, 2)
            for x in range(-2, 7):
                for y in range(-2, 5):
                    out, on = not (0 <= x <= 4 and 0 <= y <= 2), x in (0, 4) or y in (0, 2)
                    self.told(frame, shape, (whole(x), whole(y)), -1 if out else 0 if on else 1)

    def test_corners_and_points_on_sides(self):
        for m, frame, draw, shape in self.each_shape():
            great = doubled(frame, shape)
            for k in range(len(shape)):
                self.told(frame, shape, shape[k], 0)
                self.told(frame, great, added(shape[k - 1], shape[k]), 0)

    def test_points_amid(self):
        for m, frame, draw, shape in self.each_shape():
            great = [scaled(frame, corner, whole(len(shape))) for corner in shape]
            self.told(frame, great, amid(shape), 1)
            if len(shape) > 3:
                for k in range(len(shape)):
                    self.told(frame, doubled(frame, shape), added(shape[k - 2], shape[k]), 1)

    def test_points_beyond(self):
        for m, frame, draw, shape in self.each_shape():
            for k in range(len(shape)):
                step = lessened(shape[k], shape[k - 1])
                # Straight on behind a side's end, and straight back ahead of its start.
                self.told(frame, shape, added(shape[k], step), -1)
                self.told(frame, shape, lessened(shape[k - 1], step), -1)
                # As far beyond a corner as all corners' middle is on this side of it.
                count = whole(len(shape))
                great = [scaled(frame, corner, count) for corner in shape]
                self.told(frame, great, lessened(added(great[k], great[k]), amid(shape)), -1)
            self.told(frame, shape, ((10 ** 59, 0), (-10 ** 59, 0)), -1)

    def test_any_points(self):
        for m, frame, draw, shape in self.each_shape():
            places = [in_plane(m, corner) for corner in shape]
            for _ in range(25):
                point = (some_small(draw, m), some_small(draw, m))
                self.assertEqual(where(frame, shape, point), plane_where(places, in_plane(m, point)))

    def test_points_of_a_small_field(self):
        for m, frame, draw in self.each_frame():
            for count in COUNTS:
                corners = some_shape(draw, 4, count)
                places = [in_plane(m, corner) for corner in corners]
                for x in range(-9, 10):
                    for y in range(-9, 10, 3):
                        point = (whole(x), whole(y))
                        self.assertEqual(where(frame, corners, point), plane_where(places, in_plane(m, point)))

    def test_points_that_are_nearly_on_the_border(self):
        for m in (8, 10, 12):
            frame = Frame(m)
            shape = small_box(0, 0, 1000, 1000)
            for n in (1, 7, 30, 60):
                slight = frame.power(SLIGHT[m], n)
                self.told(frame, shape, ((500, 0), slight), 1)
                self.told(frame, shape, ((500, 0), minus((0, 0), slight)), -1)
                self.told(frame, shape, (minus((1000, 0), slight), (500, 0)), 1)
                self.told(frame, shape, (plus((1000, 0), slight), (500, 0)), -1)


class PairsTest(ShapesTest):
    def held(self, frame, one, other, apart, side=None):
        """Either way round, and begun at any corner; the side only of shapes that are apart."""
        for first, second in ((one, other), (other, one)):
            for k in range(len(first)):
                for j in range(len(second)):
                    both = (begun(first, k), begun(second, j))
                    self.assertIs(are_apart(frame, *both), apart, (frame.size(), one, other))
                    if apart:
                        self.assertEqual(side_between(frame, *both), side, (frame.size(), one, other))

    def held_moved(self, one, other, apart, ends=None):
        """In each frame, as it is and put elsewhere."""
        for m, frame, draw in self.each_frame():
            self.held(frame, one, other, apart, ends and tuple(sorted(ends)))
            for _ in range(2):
                move = some_move(draw, m)
                side = ends and tuple(sorted(moved(frame, move, end) for end in ends))
                self.held(frame, put(frame, move, one), put(frame, move, other), apart, side)


class AsWrittenTest(PairsTest):
    def test_a_whole_side(self):
        ends = [(whole(2), whole(0)), (whole(2), whole(3))]
        self.held_moved(small_box(0, 0, 2, 3), small_box(2, 0, 5, 3), True, ends)
        triangle = [(whole(2), whole(3)), (whole(2), whole(0)), (whole(7), whole(-9))]
        self.held_moved(small_box(0, 0, 2, 3), triangle, True, ends)

    def test_a_part_of_a_side(self):
        block = small_box(0, 0, 4, 4)
        for y, high, low_end, high_end in ((1, 2, 1, 3), (0, 2, 0, 2), (2, 2, 2, 4), (-1, 9, 0, 4), (-2, 3, 0, 1),
                                           (3, 5, 3, 4), (0, 7, 0, 4), (-3, 7, 0, 4)):
            ends = [(whole(4), whole(low_end)), (whole(4), whole(high_end))]
            self.held_moved(block, small_box(4, y, 1, high), True, ends)
            mirrored_box = small_box(-1, y, 1, high)
            self.held_moved(block, mirrored_box, True, [(whole(0), end[1]) for end in ends])

    def test_a_corner_only(self):
        block = small_box(0, 0, 4, 4)
        self.held_moved(block, small_box(4, 4, 1, 2), True)
        self.held_moved(block, small_box(4, -3, 2, 3), True)
        # The tip amid a side, and a tip at a tip with sides on one line.
        self.held_moved(block, [(whole(4), whole(2)), (whole(9), whole(1)), (whole(9), whole(3))], True)
        self.held_moved(block, [(whole(4), whole(4)), (whole(8), whole(4)), (whole(8), whole(9))], True)
        self.held_moved(block, [(whole(4), whole(4)), (whole(5), whole(3)), (whole(8), whole(8))], True)

    def test_nothing(self):
        block = small_box(0, 0, 4, 4)
        self.held_moved(block, small_box(5, 0, 4, 4), True)
        self.held_moved(block, small_box(0, 9, 4, 4), True)
        self.held_moved(block, small_box(5, 4, 4, 4), True)
        self.held_moved(block, small_box(50, -60, 4, 4), True)
        # Only a slanting side of one of them goes between the two.
        self.held_moved(block, [(whole(9), whole(0)), (whole(9), whole(9)), (whole(0), whole(9))], True)
        # Only one has such a side, whichever comes first.
        triangle = [(whole(8), whole(1)), (whole(8), whole(8)), (whole(1), whole(8))]
        self.held_moved(triangle, [(whole(0), whole(0)), (whole(4), whole(0)), (whole(4), whole(4))], True)

    def test_overlapping(self):
        block = small_box(0, 0, 4, 4)
        self.held_moved(block, block, False)
        self.held_moved(block, small_box(3, 3, 4, 4), False)
        self.held_moved(block, small_box(2, 0, 4, 4), False)
        self.held_moved(block, small_box(0, 1, 4, 4), False)
        # No corner of either lies in the other one.
        self.held_moved(block, small_box(-1, 1, 6, 2), False)
        self.held_moved(block, small_box(0, -1, 4, 6), False)
        # All corners of one are on the border of the other.
        self.held_moved(block, [(whole(2), whole(0)), (whole(4), whole(2)), (whole(2), whole(4)), (whole(0), whole(2))],
                        False)
        self.held_moved(block, block[:3], False)
        self.held_moved(block, [(whole(7), whole(0)), (whole(7), whole(7)), (whole(0), whole(7))], False)

    def test_within_one_another(self):
        block = small_box(0, 0, 9, 9)
        self.held_moved(block, small_box(3, 3, 2, 2), False)
        self.held_moved(block, small_box(0, 3, 2, 2), False)
        self.held_moved(block, small_box(0, 0, 9, 2), False)
        self.held_moved(block, [(whole(1), whole(1)), (whole(8), whole(2)), (whole(3), whole(7))], False)

    def test_the_first_end_is_less_as_tuples_compare(self):
        # The root of 2 is more than 1, but (0, 1) is less than (1, 0); so it is with the golden number and with root 3.
        for m in (8, 10, 12):
            frame = Frame(m)
            ends = (((0, 1), (0, 0)), ((1, 0), (0, 0)))
            below = box(((1, 0), (-1, 0)), ((0, 1), (0, 0)))
            above = box(((1, 0), (0, 0)), ((0, 1), (1, 0)))
            self.held(frame, below, above, True, ends)
            ends = (((5, -2), (3, 0)), ((5, -2), (9, -1)))
            self.held(frame, box(((0, 0), (3, 0)), ((5, -2), (9, -1))), box(((5, -2), (3, 0)), ((9, 0), (9, -1))), True,
                      ends)

    def test_nearly_touching(self):
        for m in (8, 10, 12):
            frame = Frame(m)
            block = small_box(0, 0, 4, 4)
            for n in (1, 9, 40, 60):
                slight = frame.power(SLIGHT[m], n)
                near, over = (plus((4, 0), slight), (0, 0)), (minus((4, 0), slight), (0, 0))
                self.held(frame, block, box(near, ((9, 0), (4, 0))), True)
                self.held(frame, block, box(over, ((9, 0), (4, 0))), False)
                # A side of hardly any length is one all the same.
                low = ((4, 0), minus((4, 0), slight))
                self.held(frame, block, box(low, ((9, 0), (9, 0))), True, tuple(sorted((low, ((4, 0), (4, 0))))))


class AnyPairsTest(PairsTest):
    def held_in_plane(self, m, frame, one, other):
        places = [[in_plane(m, corner) for corner in shape] for shape in (one, other)]
        apart = plane_common(*places) < NEAR
        self.assertIs(are_apart(frame, one, other), apart, (m, one, other))
        self.assertIs(are_apart(frame, other, one), apart)
        if not apart:
            return "over"
        side, ends = side_between(frame, one, other), plane_side_between(*places)
        self.assertEqual(side_between(frame, other, one), side)
        if ends is None:
            self.assertIsNone(side)
            return "apart"
        self.assertTrue(isinstance(side, tuple) and len(side) == 2 and side[0] < side[1])
        for end in side:
            self.assertTrue(is_point(m, end))
            self.assertTrue(any(same_place(in_plane(m, end), place) for place in ends))
        return "side"

    def test_any_shapes(self):
        for m, frame, draw in self.each_frame():
            seen = set()
            for count in COUNTS:
                for other_count in COUNTS:
                    for far in (0, 6, 15):
                        one, other = some_shape(draw, m, count), some_shape(draw, m, other_count)
                        off = ((draw.randrange(-far, far + 1), 0), (draw.randrange(-far, far + 1), 0))
                        seen.add(self.held_in_plane(m, frame, one, put(frame, (0, 0, off), other)))
            self.assertLessEqual({"over", "apart"}, seen)

    def test_any_shapes_side_by_side(self):
        for m, frame, draw, one in self.each_shape():
            for k in range(len(one)):
                # Turned by a half around the point amid a side it lies beyond that side; then shifted along it.
                about = (m // 2, 0, added(one[k - 1], one[k]))
                other = put(frame, about, one)
                self.held(frame, one, other, True, tuple(sorted((one[k - 1], one[k]))))
                great, great_other = doubled(frame, one), doubled(frame, other)
                step = lessened(one[k], one[k - 1])
                for steps, due in ((1, "side"), (-1, "side"), (2, "apart"), (-2, "apart"), (3, "apart")):
                    off = scaled(frame, step, whole(steps))
                    seen = self.held_in_plane(m, frame, great, put(frame, (0, 0, off), great_other))
                    self.assertEqual(seen, due)

    def test_the_parts_of_a_diagonal(self):
        for m, frame, draw, shape in self.each_shape():
            for one in range(len(shape)):
                for other in range(one + 2, len(shape) - (one == 0)):
                    parts = [shape[one:other + 1], shape[other:] + shape[:one + 1]]
                    self.held(frame, *parts, True, tuple(sorted((shape[one], shape[other]))))
                    for part in parts:
                        self.held(frame, shape, part, False)

    def test_any_boxes(self):
        for m, frame, draw in self.each_frame():
            numbers = [(a, b) for a in range(-2, 4) for b in ((0,) if m in (4, 6) else (-1, 0, 1))]
            numbers = sorted(numbers, key=lambda number: decimal_value(m, number))
            seen = []
            for _ in range(300):
                # Few places, so that the boxes often meet.
                places = sorted(draw.sample(range(len(numbers)), 4))
                lines = [numbers[place] for place in places]
                spans = [sorted(draw.sample(range(4), 2)) for _ in range(4)]
                boxes = [box((lines[spans[k][0]], lines[spans[k + 1][0]]), (lines[spans[k][1]], lines[spans[k + 1][1]]))
                         for k in (0, 2)]
                low = [max(spans[k][0], spans[k + 2][0]) for k in (0, 1)]
                high = [min(spans[k][1], spans[k + 2][1]) for k in (0, 1)]
                apart = low[0] >= high[0] or low[1] >= high[1]
                touch = (low[0] == high[0] and low[1] < high[1]) or (low[1] == high[1] and low[0] < high[0])
                corner = [tuple(lines[k] for k in ends) for ends in (low, high)]
                side = tuple(sorted(corner)) if touch else None
                seen.append((apart, touch))
                for one, other in (boxes, boxes[::-1]):
                    self.assertIs(are_apart(frame, one, other), apart)
                    if apart:
                        self.assertEqual(side_between(frame, one, other), side)
            self.assertEqual(len(set(seen)), 3)


class OwnTest(ShapesTest):
    def test_nothing_handed_in_is_changed(self):
        for m, frame, draw, shape in self.each_shape(each=1):
            about = (m // 2, 0, added(shape[0], shape[1]))
            other = put(frame, about, shape)
            point = some_point(draw, m)
            before = copy.deepcopy((shape, other, point))
            is_shape(frame, shape)
            is_shape(frame, shape[::-1])
            twice(frame, shape)
            where(frame, shape, point)
            are_apart(frame, shape, other)
            side_between(frame, shape, other)
            self.assertEqual((shape, other, point), before)

    def test_asked_again_the_same_is_told(self):
        for m, frame, draw, shape in self.each_shape(each=1):
            other = put(frame, back(frame, some_move(draw, m)), shape)
            told = [(is_shape(frame, shape), twice(frame, shape), where(frame, shape, other[0]),
                     are_apart(frame, shape, other)) for _ in range(3)]
            self.assertEqual(told, told[:1] * 3)


if __name__ == "__main__":
    unittest.main()
