"""Rules: shapes, a scale, and how each shape is cut when it is made greater by the scale."""

from inflate.errors import NoCut, NoScale, NoShape
from inflate.frames import Frame, is_whole
from inflate.shapes import is_shape

MOST_SHAPES = 4
MOST_PARTS = 12


def is_below(value, end):
    return is_whole(value) and 0 <= value < end


def copied(lists):
    return [list(inner) for inner in lists]


def are_shapes(frame, shapes):
    if len(shapes) < 1 or len(shapes) > MOST_SHAPES:
        return False
    return all([is_shape(frame, points) for points in shapes])


def is_part(frame, shapes, part):
    move = part[1]
    return is_below(part[0], len(shapes)) and is_below(move[0], frame.size()) and is_below(move[1], 2)


def is_cut(frame, shapes, cut):
    if len(cut) < 1 or len(cut) > MOST_PARTS:
        return False
    return all([is_part(frame, shapes, part) for part in cut])


def are_cuts(frame, shapes, cuts):
    return len(cuts) == len(shapes) and all([is_cut(frame, shapes, cut) for cut in cuts])


class Rule:
    def __init__(self, m, scale, shapes, cuts):
        frame = Frame(m)
        if not frame.less((1, 0), scale):
            raise NoScale("a scale is a number greater than 1")
        if not are_shapes(frame, shapes):
            raise NoShape("a rule has one to four shapes, each of three to six corners around it to the left")
        if not are_cuts(frame, shapes, cuts):
            raise NoCut("a rule has for each shape a cut of one to twelve parts, each a kind and a move")
        self.own_frame = frame
        self.own_scale = scale
        self.own_shapes = copied(shapes)
        self.own_cuts = copied(cuts)
        # A rule stays as it is made, so what was reckoned of it once need not be reckoned again.
        self.reckoned = {}

    def frame(self):
        return self.own_frame

    def scale(self):
        return self.own_scale

    def shapes(self):
        return copied(self.own_shapes)

    def cuts(self):
        return copied(self.own_cuts)
