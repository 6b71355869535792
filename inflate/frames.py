"""Frames, and exact reckoning with their numbers a + b w, told as tuples (a, b)."""

from inflate.errors import NoFrame

# For each m the whole numbers p, q for which w is the greater number whose square is p + q w:
# all reckoning needs no more of w than these two.
SQUARES = {4: (0, 0), 6: (1, 0), 8: (2, 0), 10: (1, 1), 12: (3, 0)}


def plus(one, other):
    return (one[0] + other[0], one[1] + other[1])


def minus(one, other):
    return (one[0] - other[0], one[1] - other[1])


def whole_sign(whole):
    if whole > 0:
        return 1
    if whole < 0:
        return -1
    return 0


def is_whole(value):
    return isinstance(value, int) and not isinstance(value, bool)


def is_frame_size(m):
    # 8.0 would be found among the keys as 8 is, and a list cannot be sought there: so the kind is asked first.
    return is_whole(m) and m in SQUARES


class Frame:
    def __init__(self, m):
        if not is_frame_size(m):
            raise NoFrame("a frame is told by 4, 6, 8, 10 or 12")
        self.m = m
        self.square = SQUARES[m]

    def size(self):
        return self.m

    def number(self, a, b):
        # Where w is a whole number itself, b w goes into a: so no number has two tuples.
        if self.m == 4:
            return (a, 0)
        if self.m == 6:
            return (a + b, 0)
        return (a, b)

    def times(self, one, other):
        both = one[1] * other[1]
        a = one[0] * other[0] + both * self.square[0]
        b = one[0] * other[1] + one[1] * other[0] + both * self.square[1]
        return self.number(a, b)

    def power(self, one, n):
        answer = (1, 0)
        for step in range(n):
            answer = self.times(answer, one)
        return answer

    def mate(self, one):
        # w and q - w are the two numbers whose square is p + q times themselves. With the one put for the other,
        # a number becomes its mate, and both multiplied are a whole number: so one can be divided by.
        return (one[0] + self.square[1] * one[1], -one[1])

    def sign(self, one):
        # Twice a + b w is c + b r, r being the root of q q + 4 p: the one of c and b r
        # that lies farther from 0 tells the sign, and their squares are whole numbers.
        p = self.square[0]
        q = self.square[1]
        b = one[1]
        c = 2 * one[0] + q * b
        ahead = c * c - (q * q + 4 * p) * b * b
        if ahead > 0:
            return whole_sign(c)
        if ahead < 0:
            return whole_sign(b)
        return 0

    def less(self, one, other):
        return self.sign(minus(other, one)) == 1
