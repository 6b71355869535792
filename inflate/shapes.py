"""Shapes, lists of three to six points with no hollow, and how two of them lie to one another."""

from inflate.frames import plus
from inflate.points import ZERO, added, cross, opposite

FEWEST_CORNERS = 3
MOST_CORNERS = 6


def sides(shape):
    return list(zip(shape, shape[1:] + shape[:1]))


def hand(frame, side, point):
    # Seen from the side's start, a cross tells left (1) from right (-1); 0 is on the side's line.
    start = opposite(side[0])
    return frame.sign(cross(frame, added(side[1], start), added(point, start)))


def is_shape(frame, points):
    if len(points) < FEWEST_CORNERS or len(points) > MOST_CORNERS:
        return False
    for k in range(len(points)):
        around = points[k:] + points[:k]
        side = (around[0], around[1])
        if min([hand(frame, side, point) for point in around[2:]]) < 1:
            return False
    return True


def twice(frame, shape):
    answer = ZERO
    for side in sides(shape):
        answer = plus(answer, cross(frame, side[0], side[1]))
    return answer


def where(frame, shape, point):
    # Outside is at the right hand of some side; who is not, but straight along one, is on the border.
    answer = 1
    for side in sides(shape):
        answer = min(answer, hand(frame, side, point))
        if answer == -1:
            return answer
    return answer


def has_side_against(frame, one, other):
    for side in sides(one):
        if max([hand(frame, side, corner) for corner in other]) < 1:
            return True
    return False


def are_apart(frame, one, other):
    return has_side_against(frame, one, other) or has_side_against(frame, other, one)


def side_between(frame, one, other):
    # What two shapes that are apart have in common lies on one line, and no corner lies amid a side of
    # its own shape: so the corners of either that lie on the other are just the ends of it.
    ends = [corner for corner in one if where(frame, other, corner) == 0]
    ends = ends + [corner for corner in other if corner not in ends and where(frame, one, corner) == 0]
    if len(ends) < 2:
        return None
    return tuple(sorted(ends))
