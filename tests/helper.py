"""A second way of reckoning, to hold the program's answers against.

Numbers are told here as u + v times the root of d, u and v fractions, or as decimals of very many
places; points by their two distances from the axes. None of it draws from the program.
"""

import random
from decimal import Decimal, getcontext
from fractions import Fraction
from math import comb, isqrt

SIZES = (4, 6, 8, 10, 12)
ROOTS = {4: 1, 6: 1, 8: 2, 10: 5, 12: 3}
PLACES = 400
# Numbers and points that are unlike, and of at most sixty figures, lie much farther apart than this.
NEAR = Decimal(10) ** -200

getcontext().prec = PLACES


def rooted(m, number):
    """(u, v) such that u + v times the root of ROOTS[m] is what the tuple stands for."""
    a, b = number
    if m == 4:
        return Fraction(a), Fraction(0)
    if m == 6:
        return Fraction(a + b), Fraction(0)
    if m == 10:
        return Fraction(2 * a + b, 2), Fraction(b, 2)
    return Fraction(a), Fraction(b)


def rooted_product(m, one, other):
    (u, v), (s, t) = one, other
    return u * s + ROOTS[m] * v * t, u * t + v * s


def rooted_power(m, one, n):
    """By the binomial formula, so not by multiplying again and again."""
    u, v = one
    answer = [Fraction(0), Fraction(0)]
    for k in range(n + 1):
        answer[k % 2] += comb(n, k) * u ** (n - k) * v ** k * ROOTS[m] ** (k // 2)
    return tuple(answer)


def rooted_sign(m, one):
    """By bounds of the root, drawn nearer until both tell the same."""
    u, v = one
    if u == 0 and v == 0:
        return 0
    places = 8
    while True:
        ten = 10 ** places
        low = Fraction(isqrt(ROOTS[m] * ten * ten), ten)
        high = low + (Fraction(1, ten) if low * low != ROOTS[m] else 0)
        ends = {(end > 0) - (end < 0) for end in (u + v * low, u + v * high)}
        if len(ends) == 1 and 0 not in ends:
            return ends.pop()
        places *= 2


def decimal_w(m):
    if m == 10:
        return (1 + Decimal(5).sqrt()) / 2
    return {4: Decimal(0), 6: Decimal(1), 8: Decimal(2).sqrt(), 12: Decimal(3).sqrt()}[m]


def in_plane(m, point):
    """How far the point lies to the right of and above 0."""
    w = decimal_w(m)
    x, y = [a + b * w for a, b in point]
    return x + y * w / 2, y * (1 - w * w / 4).sqrt()


def plane_turned(m, place, r):
    """Turned step by step, to the right where r is below 0."""
    w = decimal_w(m)
    cosine = w / 2
    sine = (1 - w * w / 4).sqrt() * (1 if r >= 0 else -1)
    right, up = place
    for _ in range(abs(r)):
        right, up = right * cosine - up * sine, right * sine + up * cosine
    return right, up


def plane_moved(m, move, place):
    turn, flip, off = move
    right, up = place
    right, up = plane_turned(m, (right, -up if flip else up), turn)
    far_right, far_up = in_plane(m, off)
    return right + far_right, up + far_up


def plane_side(one, other):
    """1, 0 or -1: whether the other lies to the left or to the right of the one, seen from 0."""
    area = one[0] * other[1] - one[1] * other[0]
    return 0 if abs(area) < NEAR else 1 if area > 0 else -1


def same_place(one, other):
    return all(abs(p - q) < NEAR for p, q in zip(one, other))


def source(word):
    """Always the same numbers for the same word."""
    return random.Random("inflate " + word)


def some_whole(draw):
    figures = draw.choice((1, 1, 2, 3, 9, 20, 40, 60))
    return draw.randrange(-10 ** figures + 1, 10 ** figures)


def some_number(draw, m):
    return (some_whole(draw), 0 if m in (4, 6) else some_whole(draw))


def some_point(draw, m):
    return (some_number(draw, m), some_number(draw, m))


def some_move(draw, m):
    return (draw.randrange(m), draw.randrange(2), some_point(draw, m))


def is_whole(value):
    return isinstance(value, int) and not isinstance(value, bool)


def is_number(m, value):
    if not (isinstance(value, tuple) and len(value) == 2 and all(is_whole(part) for part in value)):
        return False
    return value[1] == 0 or m not in (4, 6)


def is_point(m, value):
    return isinstance(value, tuple) and len(value) == 2 and all(is_number(m, part) for part in value)


def is_move(m, value):
    if not (isinstance(value, tuple) and len(value) == 3):
        return False
    turn, flip, off = value
    return is_whole(turn) and 0 <= turn < m and is_whole(flip) and flip in (0, 1) and is_point(m, off)


def answers_side_by_side(make, answers):
    """Rows (told, due): what a thing tells while a second one stands beside it, and what it tells alone."""
    alone = {m: answers(make(m)) for m in SIZES}
    rows = []
    for first in SIZES:
        for second in SIZES:
            one = make(first)
            other = make(second)
            rows += [(answers(one), alone[first]), (answers(other), alone[second]), (answers(one), alone[first])]
    return rows
