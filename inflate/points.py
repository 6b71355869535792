"""Points x + y z, told as tuples (x, y) of two numbers, and moves (turn, flip, off)."""

from inflate.frames import minus, plus

ZERO = (0, 0)
ORIGIN = (ZERO, ZERO)
STAY = (0, 0, ORIGIN)


def added(one, other):
    return (plus(one[0], other[0]), plus(one[1], other[1]))


def opposite(point):
    return (minus(ZERO, point[0]), minus(ZERO, point[1]))


def scaled(frame, point, number):
    return (frame.times(point[0], number), frame.times(point[1], number))


def along_one(frame, point):
    # Both turning and mirroring need x + w y: z and its mirror image add up to w.
    return plus(point[0], frame.times(frame.number(0, 1), point[1]))


def turned_once(frame, point):
    return (minus(ZERO, point[1]), along_one(frame, point))


def turned(frame, point, r):
    answer = point
    # r may have many figures, so whole rounds are left out first.
    for step in range(r % frame.size()):
        answer = turned_once(frame, answer)
    return answer


def mirrored(frame, point):
    return (along_one(frame, point), minus(ZERO, point[1]))


def moved(frame, move, point):
    seen = mirrored(frame, point) if move[1] == 1 else point
    return added(turned(frame, seen, move[0]), move[2])


def joined(frame, first, second):
    # A mirror turns the other way round all that was turned ahead of it.
    turn = second[0] - first[0] if second[1] == 1 else second[0] + first[0]
    flip = (first[1] + second[1]) % 2
    return (turn % frame.size(), flip, moved(frame, second, first[2]))


def back(frame, move):
    # A turned mirror image is a mirror image again, so with flip 1 the same turn leads back.
    turn = move[0] if move[1] == 1 else -move[0] % frame.size()
    off = opposite(moved(frame, (turn, move[1], ORIGIN), move[2]))
    return (turn, move[1], off)


def cross(frame, one, other):
    return minus(frame.times(one[0], other[1]), frame.times(one[1], other[0]))
