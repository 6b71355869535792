"""A second way of reckoning, to hold the program's answers against.

Numbers are told here as u + v times the root of d, u and v fractions, or as decimals of very many
places; points by their two distances from the axes. None of it draws from the program, but `redrawn` and `mixed`,
which make new rules of those that are written here. At the end of it: what the tests of more than one module ask for.
"""

import copy
import random
import unittest
from decimal import Decimal, getcontext
from fractions import Fraction
from functools import lru_cache
from math import comb, isqrt

from inflate import errors
from inflate.frames import Frame
from inflate.points import back, joined, moved, scaled
from inflate.rules import Rule

SIZES = (4, 6, 8, 10, 12)
ROOTS = {4: 1, 6: 1, 8: 2, 10: 5, 12: 3}
PLACES = 400
# Numbers and points that are unlike, and of at most sixty figures, lie much farther apart than this.
NEAR = Decimal(10) ** -200

getcontext().prec = PLACES


def rooted(m, number):
    """(u, v) such that u + v times the root of ROOTS[m] is what the tuple stands for."""
    a, b = number
    if m == 4:
        return Fraction(a), Fraction(0)
    if m == 6:
        return Fraction(a + b), Fraction(0)
    if m == 10:
        return Fraction(2 * a + b, 2), Fraction(b, 2)
    return Fraction(a), Fraction(b)


def rooted_product(m, one, other):
    (u, v), (s, t) = one, other
    return u * s + ROOTS[m] * v * t, u * t + v * s


def rooted_power(m, one, n):
    """By the binomial formula, so not by multiplying again and again."""
    u, v = one
    answer = [Fraction(0), Fraction(0)]
    for k in range(n + 1):
        answer[k % 2] += comb(n, k) * u ** (n - k) * v ** k * ROOTS[m] ** (k // 2)
    return tuple(answer)


def rooted_sign(m, one):
    """By bounds of the root, drawn nearer until both tell the same."""
    u, v = one
    if u == 0 and v == 0:
        return 0
    places = 8
    while True:
        ten = 10 ** places
        low = Fraction(isqrt(ROOTS[m] * ten * ten), ten)
        high = low + (Fraction(1, ten) if low * low != ROOTS[m] else 0)
        ends = {(end > 0) - (end < 0) for end in (u + v * low, u + v * high)}
        if len(ends) == 1 and 0 not in ends:
            return ends.pop()
        places *= 2


@lru_cache(maxsize=None)
def decimal_w(m):
    if m == 10:
        return (1 + Decimal(5).sqrt()) / 2
    return {4: Decimal(0), 6: Decimal(1), 8: Decimal(2).sqrt(), 12: Decimal(3).sqrt()}[m]


@lru_cache(maxsize=None)
def decimal_sine(m):
    """How far z lies above 0."""
    w = decimal_w(m)
    return (1 - w * w / 4).sqrt()


def decimal_value(m, number):
    return number[0] + number[1] * decimal_w(m)


def in_plane(m, point):
    """How far the point lies to the right of and above 0."""
    x, y = [decimal_value(m, number) for number in point]
    return x + y * decimal_w(m) / 2, y * decimal_sine(m)


def plane_turned(m, place, r):
    """Turned step by step, to the right where r is below 0."""
    cosine = decimal_w(m) / 2
    sine = decimal_sine(m) * (1 if r >= 0 else -1)
    right, up = place
    for _ in range(abs(r)):
        right, up = right * cosine - up * sine, right * sine + up * cosine
    return right, up


def plane_put(m, turn, flip, off_place, place):
    right, up = place
    right, up = plane_turned(m, (right, -up if flip else up), turn)
    return right + off_place[0], up + off_place[1]


def plane_moved(m, move, place):
    turn, flip, off = move
    return plane_put(m, turn, flip, in_plane(m, off), place)


def plane_side(one, other):
    """1, 0 or -1: whether the other lies to the left or to the right of the one, seen from 0."""
    area = one[0] * other[1] - one[1] * other[0]
    return 0 if abs(area) < NEAR else 1 if area > 0 else -1


def same_place(one, other):
    return all(abs(p - q) < NEAR for p, q in zip(one, other))


def plane_area(places):
    """Twice the area, above 0 where the places come around to the left."""
    return sum(one[0] * other[1] - one[1] * other[0] for one, other in zip(places, places[1:] + places[:1]))


def plane_where(places, place):
    """By the triangles between the place and the sides: together they are greater than the whole for who is outside."""
    areas = [abs(plane_area([place, one, other])) for one, other in zip(places, places[1:] + places[:1])]
    if sum(areas) > plane_area(places) + NEAR:
        return -1
    return 0 if min(areas) < NEAR else 1


def plane_common(one, other):
    """Twice the area that both have: what is left of the one when it is cut off along the sides of the other."""
    rest = one
    for start, end in zip(other, other[1:] + other[:1]):
        kept = []
        for place, after in zip(rest, rest[1:] + rest[:1]):
            here, there = plane_area([start, end, place]), plane_area([start, end, after])
            if here >= 0:
                kept.append(place)
            if (here > 0 > there) or (here < 0 < there):
                share = here / (here - there)
                kept.append(tuple(p + (q - p) * share for p, q in zip(place, after)))
        rest = kept
    return plane_area(rest) if rest else Decimal(0)


def plane_side_between(one, other):
    """The two ends of what sides of both have in common, or None."""
    for start, end in zip(one, one[1:] + one[:1]):
        for begin, stop in zip(other, other[1:] + other[:1]):
            if max(abs(plane_area([start, end, place])) for place in (begin, stop)) < NEAR:
                along = [(place[0] - start[0]) * (end[0] - start[0]) + (place[1] - start[1]) * (end[1] - start[1])
                         for place in (start, end, begin, stop)]
                low, high = max(along[0], min(along[2:])), min(along[1], max(along[2:]))
                if high - low > NEAR:
                    length = along[1]
                    return [tuple(p + (q - p) * far / length for p, q in zip(start, end)) for far in (low, high)]
    return None


def plane_piece(m, move, places):
    answer = [plane_moved(m, move, place) for place in places]
    return answer[::-1] if move[1] else answer


def plane_lack(told):
    """The lack of the rule told by (m, scale, shapes, cuts), the number of a gap as twice an area of the plane."""
    m, scale, shapes, cuts = told
    places = [[in_plane(m, corner) for corner in shape] for shape in shapes]
    times = decimal_value(m, scale)
    for kind, cut in enumerate(cuts):
        whole = [(right * times, up * times) for right, up in places[kind]]
        parts = [plane_piece(m, move, places[part_kind]) for part_kind, move in cut]
        for number, part in enumerate(parts):
            if min(plane_where(whole, place) for place in part) == -1:
                return "outside", kind, number
        for one in range(len(parts)):
            for other in range(one + 1, len(parts)):
                if plane_common(parts[one], parts[other]) > NEAR:
                    return "overlap", kind, one, other
        rest = plane_area(whole) - sum(plane_area(part) for part in parts)
        if abs(rest) > NEAR:
            return "gap", kind, rest
    return None


def plane_floor(told, kind, n):
    """Rows (address, kind, places), from the greatest parts to the least ones, as point 15 has it."""
    m, scale, shapes, cuts = told
    if n == 0:
        return [((), kind, [in_plane(m, corner) for corner in shapes[kind]])]
    times = decimal_value(m, scale) ** (n - 1)
    rows = []
    for number, (part_kind, (turn, flip, off)) in enumerate(cuts[kind]):
        right, up = in_plane(m, off)
        for address, last_kind, places in plane_floor(told, part_kind, n - 1):
            put = [plane_put(m, turn, flip, (right * times, up * times), place) for place in places]
            rows.append(((number,) + address, last_kind, put[::-1] if flip else put))
    return rows


def plane_shared(one, other):
    """How long the borders of both run together."""
    total = Decimal(0)
    for start, end in zip(one, one[1:] + one[:1]):
        length = plane_far(start, end)
        for begin, stop in zip(other, other[1:] + other[:1]):
            if max(abs(plane_area([start, end, place])) for place in (begin, stop)) < NEAR:
                along = sorted(sum((p - s) * (e - s) for p, s, e in zip(place, start, end)) / length
                               for place in (begin, stop))
                total += max(min(along[1], length) - max(along[0], 0), 0)
    return total


def plane_far(one, other):
    return ((one[0] - other[0]) ** 2 + (one[1] - other[1]) ** 2).sqrt()


# Where these three places are taken to tells a move.
BASE = tuple((Decimal(right), Decimal(up)) for right, up in ((0, 0), (1, 0), (0, 1)))


def plane_three(m, move):
    return tuple(plane_moved(m, move, place) for place in BASE)


def taken_by(three, place):
    start, right, up = three
    return tuple(s + place[0] * (r - s) + place[1] * (u - s) for s, r, u in zip(start, right, up))


def taken_back_by(three, place):
    start, right, up = three
    return tuple(sum((p - s) * (e - s) for p, s, e in zip(place, start, end)) for end in (right, up))


def plane_key(three):
    """The same for the same moves, however they were reckoned."""
    return tuple(number.quantize(Decimal(10) ** -100) for place in three for number in place)


def plane_parts(told, kind, three):
    """Rows (kind, three, places): the parts of a piece when it is cut."""
    m, scale, shapes, cuts = told
    times = decimal_value(m, scale)
    far = [number * (times - 1) for number in three[0]]
    great = tuple(tuple(p + q for p, q in zip(place, far)) for place in three)
    rows = []
    for part_kind, move in cuts[kind]:
        part = tuple(taken_by(great, place) for place in plane_three(m, move))
        rows.append((part_kind, part, [taken_by(part, in_plane(m, corner)) for corner in shapes[part_kind]]))
    return rows


def plane_led(told, one_kind, other_kind, three):
    """Rows (i, j, kind, other kind, three): the neighbours among the parts of two pieces, or of one piece twice."""
    rows = []
    for i, (one, one_three, one_places) in enumerate(plane_parts(told, one_kind, BASE)):
        for j, (other, other_three, other_places) in enumerate(plane_parts(told, other_kind, three)):
            # Pieces of unlike kinds may have like moves and lie side by side.
            same = one == other and plane_key(one_three) == plane_key(other_three)
            if not same and plane_side_between(one_places, other_places):
                rows.append((i, j, one, other, tuple(taken_back_by(one_three, place) for place in other_three)))
    return rows


def plane_relations(told, most):
    """Rows (kind, other kind, key, reason) as point 19 has them, or None for more than so many."""
    rows, waiting, seen = [], [], set()

    def put(word, number, found):
        for i, j, one, other, three in found:
            key = (one, other, plane_key(three))
            if key not in seen:
                seen.add(key)
                rows.append((*key, (word, number, i, j)))
                waiting.append((one, other, three))

    for kind in range(len(told[2])):
        put("cut", kind, plane_led(told, kind, kind, BASE))
    number = 0
    while number < len(waiting) <= most:
        put("led", number, plane_led(told, *waiting[number]))
        number += 1
    return rows if len(rows) <= most else None


def plane_whole(told, kind, others):
    """Whether the borders of the others (kind, three) run along all the border of the kind's shape."""
    m, shapes = told[0], told[2]
    places = [in_plane(m, corner) for corner in shapes[kind]]
    around = [[taken_by(three, in_plane(m, corner)) for corner in shapes[other]] for other, three in others]
    length = sum(plane_far(one, other) for one, other in zip(places, places[1:] + places[:1]))
    return abs(length - sum(plane_shared(places, other) for other in around)) < NEAR


def plane_stars(told, most):
    """Rows (kind, others, whole, reason) as point 26 has them, the others as a set of tuples (kind, key), and what the
    parts of each are: lists of tuples (kind, others). None for more rows than so many."""
    rows, waiting, parts, seen, beside = [], [], [], set(), {}

    def led(one, other, three):
        key = (one, other, plane_key(three))
        if key not in beside:
            beside[key] = plane_led(told, one, other, three)
        return beside[key]

    def put(kind, others, reason):
        star = (kind, frozenset(others))
        if star not in seen:
            seen.add(star)
            waiting.append((kind, others))
            pieces = [(other, three) for (other, key), three in others.items()]
            rows.append((*star, plane_whole(told, kind, pieces), reason))
        return star

    for kind in range(len(told[2])):
        put(kind, {}, ("bare", kind))
    while len(parts) < len(waiting) <= most:
        kind, others = waiting[len(parts)]
        found = led(kind, kind, BASE)
        for (other, key), three in others.items():
            found = found + led(kind, other, three)
        parts.append([put(part_kind, {(row[3], plane_key(row[4])): row[4] for row in found if row[0] == i},
                          ("cut", len(parts), i)) for i, (part_kind, move) in enumerate(told[3][kind])])
    return (rows, parts) if len(rows) <= most else None


def source(word):
    """Always the same numbers for the same word."""
    return random.Random("inflate " + word)


def some_whole(draw):
    figures = draw.choice((1, 1, 2, 3, 9, 20, 40, 60))
    return draw.randrange(-10 ** figures + 1, 10 ** figures)


def some_number(draw, m):
    return (some_whole(draw), 0 if m in (4, 6) else some_whole(draw))


def some_point(draw, m):
    return (some_number(draw, m), some_number(draw, m))


def some_move(draw, m):
    return (draw.randrange(m), draw.randrange(2), some_point(draw, m))


def some_small(draw, m):
    return (draw.randrange(-9, 10), 0 if m in (4, 6) else draw.randrange(-9, 10))


def some_shape(draw, m, count):
    """The corners of the hull of some small points, drawn until they are as many as asked for."""
    while True:
        points = [(some_small(draw, m), some_small(draw, m)) for _ in range(count + draw.randrange(3))]
        shape = hull_of(m, points)
        if len(shape) == count:
            return shape


def hull_of(m, points):
    """The corners of the hull as they come around it to the left, none amid a side; begun at the leftmost one.

    How points lie around one another is the same where z is drawn upright; then like numbers give like places.
    """
    drawn = {tuple(decimal_value(m, number) for number in point): point for point in points}
    corners = []
    for row in (sorted(drawn), sorted(drawn, reverse=True)):
        half = []
        for place in row:
            while len(half) > 1 and plane_area([half[-2], half[-1], place]) < NEAR:
                half.pop()
            half.append(place)
        corners += half[:-1]
    return [drawn[place] for place in corners]


def goes_around(m, points):
    """Whether the points are all corners of their hull, in its order, each once."""
    hull = hull_of(m, points)
    start = points.index(hull[0]) if hull else 0
    return hull == points[start:] + points[:start]


def is_whole(value):
    return isinstance(value, int) and not isinstance(value, bool)


def is_number(m, value):
    if not (isinstance(value, tuple) and len(value) == 2 and all(is_whole(part) for part in value)):
        return False
    return value[1] == 0 or m not in (4, 6)


def is_point(m, value):
    return isinstance(value, tuple) and len(value) == 2 and all(is_number(m, part) for part in value)


def is_move(m, value):
    if not (isinstance(value, tuple) and len(value) == 3):
        return False
    turn, flip, off = value
    return is_whole(turn) and 0 <= turn < m and is_whole(flip) and flip in (0, 1) and is_point(m, off)


def answers_side_by_side(make, answers):
    """Rows (told, due): what a thing tells while a second one stands beside it, and what it tells alone."""
    alone = {m: answers(make(m)) for m in SIZES}
    rows = []
    for first in SIZES:
        for second in SIZES:
            one = make(first)
            other = make(second)
            rows += [(answers(one), alone[first]), (answers(other), alone[second]), (answers(one), alone[first])]
    return rows


def read_number(text):
    a, _, b = text.partition(",")
    return (int(a), int(b or 0))


def read_point(text):
    x, y = text.split(":")
    return (read_number(x), read_number(y))


def read(text):
    """What a rule written as below is made of: m, scale, shapes and cuts, all lists new ones."""
    shapes, cuts = [], []
    for line in text.split("\n"):
        word, *rest = line.split(" ")
        if word == "frame":
            m = int(rest[0])
        elif word == "scale":
            scale = read_number(rest[0])
        elif word == "shape":
            shapes.append([read_point(point) for point in rest])
        elif word == "cut":
            cuts.append([])
        else:
            kind, turn, flip = [int(number) for number in rest[:3]]
            cuts[-1].append((kind, (turn, flip, read_point(rest[3]))))
    return m, scale, shapes, cuts


def full(name):
    return read(FULL[name])


def redrawn(draw, told):
    """The same rule, each shape turned, perhaps mirrored, put elsewhere and begun elsewhere, the parts in any order."""
    m, scale, shapes, cuts = told
    frame = Frame(m)
    moves = [(draw.randrange(m), draw.randrange(2), (some_small(draw, m), some_small(draw, m))) for _ in shapes]
    new_shapes, new_cuts = [], []
    for (turn, flip, off), shape, cut in zip(moves, shapes, cuts):
        corners = [moved(frame, (turn, flip, off), corner) for corner in shape][::-1 if flip else 1]
        start = draw.randrange(len(corners))
        new_shapes.append(corners[start:] + corners[:start])
        great = (turn, flip, scaled(frame, off, scale))
        parts = [(kind, joined(frame, back(frame, moves[kind]), joined(frame, move, great))) for kind, move in cut]
        draw.shuffle(parts)
        new_cuts.append(parts)
    return m, scale, new_shapes, new_cuts


def reordered(told, order):
    """The same rule, the kind order[k] being told as the kind k."""
    m, scale, shapes, cuts = told
    return (m, scale, [shapes[kind] for kind in order],
            [[(order.index(part), move) for part, move in cuts[kind]] for kind in order])


def own_moves(m, shape):
    """The moves by which the shape's corners come to lie on its corners."""
    frame = Frame(m)
    answer = []
    for turn in range(m):
        for flip in (0, 1):
            put = [moved(frame, (turn, flip, ((0, 0), (0, 0))), corner) for corner in shape]
            for corner in shape:
                off = tuple(tuple(p - q for p, q in zip(*numbers)) for numbers in zip(corner, put[0]))
                move = (turn, flip, off)
                if sorted(moved(frame, move, point) for point in shape) == sorted(shape):
                    answer.append(move)
    return answer


def mixed(draw, told):
    """The same parts, each one put where it was by any of the moves that its shape allows."""
    m, scale, shapes, cuts = told
    frame = Frame(m)
    own = [own_moves(m, shape) for shape in shapes]
    new_cuts = [[(kind, joined(frame, draw.choice(own[kind]), move)) for kind, move in cut] for cut in cuts]
    return m, scale, shapes, new_cuts


# Rules that lack nothing.
FULL = {
    "square in four": """frame 4
scale 2
shape 0:0 1:0 1:1 0:1
cut
part 0 0 0 0:0
part 0 0 0 1:0
part 0 0 0 1:1
part 0 0 0 0:1""",
    "square in nine": """frame 4
scale 3
shape 0:0 1:0 1:1 0:1
cut
part 0 0 0 0:0
part 0 0 0 2:0
part 0 0 0 2:2
part 0 0 0 0:2
part 0 0 0 1:0
part 0 0 0 1:1
part 0 0 0 0:1
part 0 0 0 2:1
part 0 0 0 1:2""",
    "domino in four": """frame 4
scale 2
shape 0:0 2:0 2:1 0:1
cut
part 0 1 0 1:0
part 0 0 0 1:0
part 0 0 1 1:2
part 0 3 0 3:2""",
    "half square in four": """frame 4
scale 2
shape 0:0 1:0 0:1
cut
part 0 0 0 0:0
part 0 0 0 1:0
part 0 0 0 0:1
part 0 2 0 1:1""",
    "squares 300": """frame 4
scale 2
shape 0:0 1:0 1:1 0:1
shape 0:0 2:0 2:2 0:2
shape 0:0 3:0 3:3 0:3
shape 0:0 4:0 4:4 0:4
cut
part 0 0 0 0:0
part 0 0 0 1:0
part 0 0 0 0:1
part 0 0 0 1:1
cut
part 0 0 0 0:0
part 0 0 0 1:0
part 0 0 0 2:0
part 0 0 0 3:0
part 0 0 0 0:1
part 0 0 0 1:1
part 0 0 0 2:1
part 0 0 0 3:1
part 1 0 0 0:2
part 1 0 0 2:2
cut
part 0 0 0 0:0
part 0 0 0 1:0
part 0 0 0 2:0
part 0 0 0 3:0
part 1 0 0 4:0
part 0 0 0 0:1
part 0 0 0 1:1
part 0 0 0 2:1
part 0 0 0 3:1
part 1 0 0 0:2
part 3 0 0 2:2
part 1 0 0 0:4
cut
part 3 0 0 0:0
part 3 0 0 4:0
part 3 0 0 0:4
part 3 0 0 4:4""",
    "squares 301": """frame 4
scale 2
shape 0:0 1:0 1:1 0:1
shape 0:0 2:0 2:2 0:2
shape 0:0 3:0 3:3 0:3
shape 0:0 4:0 4:4 0:4
cut
part 0 0 0 0:0
part 0 0 0 1:0
part 0 0 0 0:1
part 0 0 0 1:1
cut
part 0 0 0 0:0
part 0 0 0 1:0
part 0 0 0 2:0
part 0 0 0 3:0
part 0 0 0 0:1
part 2 0 0 1:1
part 0 0 0 0:2
part 0 0 0 0:3
cut
part 0 0 0 0:0
part 0 0 0 1:0
part 0 0 0 2:0
part 0 0 0 3:0
part 1 0 0 4:0
part 0 0 0 0:1
part 0 0 0 1:1
part 0 0 0 2:1
part 0 0 0 3:1
part 1 0 0 0:2
part 3 0 0 2:2
part 1 0 0 0:4
cut
part 1 0 0 0:0
part 1 0 0 2:0
part 3 0 0 4:0
part 1 0 0 0:2
part 1 0 0 2:2
part 3 0 0 0:4
part 3 0 0 4:4""",
    "squares 300 thrice": """frame 4
scale 2
shape 0:0 1:0 1:1 0:1
shape 0:0 2:0 2:2 0:2
shape 0:0 3:0 3:3 0:3
shape 0:0 4:0 4:4 0:4
cut
part 1 0 0 0:0
cut
part 0 0 0 0:0
part 0 0 0 1:0
part 0 0 0 2:0
part 0 0 0 3:0
part 0 0 0 0:1
part 2 0 0 1:1
part 0 0 0 0:2
part 0 0 0 0:3
cut
part 0 0 0 0:0
part 0 0 0 1:0
part 1 0 0 2:0
part 1 0 0 4:0
part 0 0 0 0:1
part 0 0 0 1:1
part 1 0 0 0:2
part 3 0 0 2:2
part 1 0 0 0:4
cut
part 1 0 0 0:0
part 1 0 0 2:0
part 1 0 0 4:0
part 1 0 0 6:0
part 1 0 0 0:2
part 2 0 0 2:2
part 2 0 0 5:2
part 1 0 0 0:4
part 2 0 0 2:5
part 2 0 0 5:5
part 1 0 0 0:6""",
    "triangle in four": """frame 6
scale 2
shape 0:0 1:0 0:1
cut
part 0 0 0 0:0
part 0 0 0 1:0
part 0 0 0 0:1
part 0 1 0 1:0""",
    "triangle in nine": """frame 6
scale 3
shape 0:0 1:0 0:1
cut
part 0 0 0 0:0
part 0 0 0 2:0
part 0 0 0 0:2
part 0 0 0 1:0
part 0 1 0 1:0
part 0 0 0 0:1
part 0 1 0 2:0
part 0 0 0 1:1
part 0 1 0 1:1""",
    "hexagon in six": """frame 6
scale 2
shape 0:0 1:0 1:1 0:2 -1:2 -1:1
shape 0:0 2:0 0:2
cut
part 1 0 0 0:0
part 1 1 0 0:0
part 1 1 0 2:0
part 1 0 0 0:2
part 1 1 0 0:2
part 1 0 0 -2:2
cut
part 1 0 0 0:0
part 1 0 0 2:0
part 1 0 0 0:2
part 1 1 0 2:0""",
    "half hexagon in four": """frame 6
scale 2
shape 0:0 2:0 1:1 0:1
cut
part 0 4 0 0:2
part 0 2 0 4:0
part 0 3 0 2:2
part 0 0 0 1:0""",
    "half square in two": """frame 8
scale 0,1
shape 0:0 1:0 -1:0,1
cut
part 0 3 0 0:1
part 0 5 0 0:1""",
    "rectangle in two": """frame 8
scale 0,1
shape 0:0 0,1:0 -1,1:0,1 -1:0,1
cut
part 0 2 0 1:0
part 0 2 0 2:0""",
    "octagonal": """frame 8
scale 1,1
shape 0:0 1:0 1:1 0:1
shape 0:0 1:0 -1:0,1
cut
part 0 0 0 0:0
part 0 1 0 1,1:0
part 0 2 0 1,1:0
part 1 5 0 1:1
part 1 6 0 0,1:1,1
part 1 1 0 0,1:0,1
part 1 2 0 1:1
cut
part 0 0 0 0:0
part 0 1 0 0:0
part 1 5 0 1:1
part 1 3 0 -1:1,1
part 1 0 0 0:1""",
    "slow half squares": """frame 8
scale 0,1
shape 0:0 1:0 -1:0,1
shape 0:0 0,1:0 0,-1:2
shape 0:0 2:0 -2:0,2
shape 0:0 0,2:0 0,-2:4
cut
part 1 0 0 0:0
cut
part 2 0 0 0:0
cut
part 3 0 0 0:0
cut
part 3 3 0 0:0,2
part 3 5 0 0:0,2""",
    "golden in three and two": """frame 10
scale 0,1
shape 0:0 0,1:0 0:0,1
shape 0:0 0,1:0 0:1
cut
part 0 0 0 0:0
part 0 3 0 1,1:0
part 1 4 0 1,1:0
cut
part 0 0 0 0:0
part 1 4 0 1,1:0""",
    "golden in two and three": """frame 10
scale 0,1
shape 0:0 0,1:0 0:0,1
shape 0:0 1,1:0 0:0,1
cut
part 0 3 0 1,1:0
part 1 0 0 0:0
cut
part 0 3 0 1,1:0
part 1 0 0 0:0
part 1 4 0 1,2:0""",
    "pentagon in three": """frame 10
scale 0,1
shape 0:0 1:0 0:0,1 0,-1:1,1 0,-1:0,1
shape 0:0 1,1:0 0:1,1
shape 0:0 1,1:0 0:0,1
cut
part 1 1 0 0:0
part 2 2 0 0:0
part 2 6 0 0:1,1
cut
part 1 0 0 0:0
part 1 3 0 1,2:0
part 2 4 0 1,2:0
cut
part 1 0 0 0:0
part 2 4 0 1,2:0""",
    "right triangle in three": """frame 12
scale 0,1
shape 0:0 0,1:0 0,-1:2
cut
part 0 3 1 0:0
part 0 11 1 0:0,1
part 0 5 0 0:0,1""",
    "rectangle in three": """frame 12
scale 0,1
shape 0:0 0,1:0 0:2 0,-1:2
cut
part 0 3 0 1:0
part 0 3 0 3:0
part 0 3 0 2:0""",
    "hexagon in six by root 3": """frame 12
scale 0,1
shape 0:0 1:0 0:0,1 -2:0,2 -3:0,2 -2:0,1
shape 0:0 0,1:0 0,-1:3
shape 0:0 0,1:0 0:3
cut
part 1 0 0 0:0
part 1 2 0 0:0
part 1 2 0 0,1:0
part 1 0 0 0,-1:3
part 1 2 0 0,-1:3
part 1 0 0 0,-2:3
cut
part 2 1 0 0:0
part 2 5 0 3:0
part 2 9 0 -3:0,3
cut
part 1 3 0 3:0
part 2 5 0 3:0
part 2 7 0 0:0,3""",
    "squares one way": """frame 4
scale 2
shape 0:0 1:0 1:1 0:1
shape 0:0 2:0 2:2 0:2
cut
part 0 0 0 0:0
part 0 0 0 1:0
part 0 0 0 1:1
part 0 0 0 0:1
cut
part 1 0 0 0:0
part 1 0 0 2:0
part 1 0 0 0:2
part 0 0 0 2:2
part 0 0 0 3:2
part 0 0 0 2:3
part 0 0 0 3:3""",
    "squares side by side": """frame 4
scale 2
shape 0:0 1:0 1:1 0:1
shape 1:0 2:0 2:1 1:1
cut
part 0 0 0 0:0
part 1 0 0 0:0
part 0 0 0 0:1
part 1 0 0 0:1
cut
part 0 0 0 2:0
part 1 0 0 2:0
part 0 0 0 2:1
part 1 0 0 2:1""",
    "offset squares": """frame 4
scale 2
shape 0:0 1:0 1:2 0:2
shape 0:0 2:0 2:2 0:2
cut
part 1 0 0 0:0
part 0 0 0 0:2
part 0 0 0 1:2
cut
part 1 0 0 0:0
part 1 0 0 2:0
part 0 0 0 0:2
part 1 0 0 1:2
part 0 0 0 3:2""",
    "squares with 120 relations": """frame 4
scale 2
shape 0:0 1:0 1:1 0:1
shape 0:0 1:0 1:1 0:1
cut
part 0 3 0 0:1
part 0 1 1 1:0
part 1 3 0 0:2
part 0 2 0 2:2
cut
part 1 3 0 0:1
part 1 3 0 1:1
part 1 2 0 1:2
part 1 3 0 1:2""",
    "squares with 121 relations": """frame 4
scale 2
shape 0:0 1:0 1:1 0:1
shape 0:0 1:0 1:1 0:1
cut
part 0 1 1 0:0
part 1 2 0 2:1
part 1 0 1 0:2
part 1 0 1 1:2
cut
part 1 3 1 1:1
part 0 3 1 2:1
part 0 3 1 1:2
part 0 3 1 2:2""",
    "triangles of two sizes": """frame 6
scale 2
shape 0:0 1:0 0:1
shape 0:0 2:0 0:2
cut
part 1 0 0 0:0
cut
part 1 0 0 0:0
part 1 0 0 2:0
part 1 1 0 2:0
part 0 0 0 0:2
part 0 0 0 1:2
part 0 0 0 0:3
part 0 1 0 1:2""",
    "half squares in turn": """frame 8
scale 0,1
shape 0:0 1:0 -1:0,1
shape 0:0 0,1:0 0,-1:2
cut
part 1 0 0 0:0
cut
part 0 0 0 0:0
part 0 0 0 1:0
part 0 0 0 -1:0,1
part 0 4 0 0:0,1""",
    "golden strips": """frame 10
scale 2
shape 0:0 1:0 1:1 0:1
shape 0:0 0,1:0 0,1:1 0:1
shape 0:0 1,1:0 1,1:1 0:1
cut
part 0 0 0 0:0
part 0 0 0 1:0
part 0 0 0 0:1
part 0 0 0 1:1
cut
part 1 0 0 0:0
part 1 0 0 0,1:0
part 1 0 0 0:1
part 1 0 0 0,1:1
cut
part 2 0 0 0:0
part 2 0 0 1,1:0
part 0 0 0 0:1
part 1 0 0 1:1
part 1 0 0 1,1:1
part 0 0 0 1,2:1""",
    "rectangles by one and root 3": """frame 12
scale 1,1
shape 0:0 2:0 2,-2:4 0,-2:4
shape 0:0 2:0 -1,-1:2,2 -3,-1:2,2
shape 0:0 1,1:0 -2:2,2 -3,-1:2,2
cut
part 2 0 0 0:0
part 2 0 0 1,1:0
part 2 0 0 -3,-1:2,2
part 2 0 0 -2:2,2
cut
part 1 3 0 1,1:0
part 1 3 0 2,2:0
part 2 0 0 0,-2:4
part 2 0 0 1,-1:4
part 2 0 0 -3,-3:6,2
part 2 0 0 -2,-2:6,2
cut
part 0 0 0 0:0
part 1 3 0 3,1:0
part 1 3 0 4,2:0
part 1 0 0 0,-2:4
part 2 0 0 2,-2:4
part 2 0 0 3,-1:4
part 1 0 0 -3,-3:6,2
part 2 0 0 -1,-3:6,2
part 2 0 0 0,-2:6,2""",
}

MOST = 300


def how_many(told, kind, n):
    """How many pieces a floor has, told by numbers alone."""
    totals = [1] * len(told[2])
    for _ in range(n):
        totals = [sum(totals[part_kind] for part_kind, _ in cut) for cut in told[3]]
    return totals[kind]


def some_address(draw, told, kind, n):
    address = ()
    for _ in range(n):
        number = draw.randrange(len(told[3][kind]))
        address += (number,)
        kind = told[3][kind][number][0]
    return address


def lacking_rules():
    """Rules that lack something, with the lack."""
    m, scale, shapes, cuts = full("golden in three and two")
    yield (m, scale, shapes, [cuts[0][:2], cuts[1]]), ("gap", 0, (0, 1))
    yield (m, scale, shapes, [cuts[0], cuts[1][1:]]), ("gap", 1, (1, 1))
    yield (m, scale, shapes, [cuts[0] + cuts[0][:1], cuts[1]]), ("overlap", 0, 0, 3)
    yield (m, scale, shapes, [cuts[0], cuts[1] + cuts[0]]), ("outside", 1, 3)
    yield (m, scale, shapes, [cuts[0], cuts[0]]), ("outside", 1, 1)
    m, scale, shapes, cuts = full("square in nine")
    yield (m, scale, shapes, [cuts[0][:8]]), ("gap", 0, (2, 0))
    yield (m, (4, 0), shapes, cuts), ("gap", 0, (14, 0))
    yield (m, (2, 0), shapes, cuts), ("outside", 0, 1)


class FloorsTest(unittest.TestCase):
    def each_rule(self, anew=1):
        """Each rule as it is written and redrawn."""
        for name in FULL:
            draw = source(f"{self.id()} {name}")
            yield full(name), draw
            for _ in range(anew):
                yield redrawn(draw, full(name)), draw

    def each_floor(self, most=MOST, deepest=5, anew=1):
        for told, draw in self.each_rule(anew):
            rule = Rule(*told)
            for kind in range(len(told[2])):
                for n in range(deepest + 1):
                    if how_many(told, kind, n) <= most:
                        yield told, draw, rule, kind, n

    def refused(self, name, call, *handed):
        before = copy.deepcopy(handed[1:])
        with self.assertRaises(errors.FloorError, msg=repr(handed)) as taken:
            call(*handed)
        self.assertIs(taken.exception.__class__, getattr(errors, name), handed)
        self.assertEqual(handed[1:], before)
        return taken.exception
