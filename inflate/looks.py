"""Looks at a rule: the corners of pieces, the greater shapes, and what its cuts lack of filling them."""

from inflate.errors import NoKind
from inflate.frames import minus
from inflate.points import ZERO, moved, scaled
from inflate.rules import is_below
from inflate.shapes import are_apart, twice, where


def refuse_no_kind(rule, kind):
    if not is_below(kind, len(rule.shapes())):
        raise NoKind("a kind is the number of a shape, from 0")


def shape_of(rule, kind):
    refuse_no_kind(rule, kind)
    return rule.shapes()[kind]


def corners(rule, piece):
    frame = rule.frame()
    move = piece[1]
    answer = [moved(frame, move, corner) for corner in shape_of(rule, piece[0])]
    if move[1] == 1:
        # Mirrored corners go round to the right.
        answer.reverse()
    return answer


def greater(rule, kind):
    frame = rule.frame()
    scale = rule.scale()
    return [scaled(frame, corner, scale) for corner in shape_of(rule, kind)]


def reaches_out(frame, whole, part):
    return min([where(frame, whole, corner) for corner in part]) == -1


def first_outside(frame, whole, parts):
    for number, part in enumerate(parts):
        if reaches_out(frame, whole, part):
            return number
    return None


def first_overlap(frame, parts):
    for one in range(len(parts)):
        for other in range(one + 1, len(parts)):
            if not are_apart(frame, parts[one], parts[other]):
                return (one, other)
    return None


def open_twice(frame, whole, parts):
    answer = twice(frame, whole)
    for part in parts:
        answer = minus(answer, twice(frame, part))
    return answer


def lack_of_kind(rule, kind):
    frame = rule.frame()
    whole = greater(rule, kind)
    parts = [corners(rule, part) for part in rule.cuts()[kind]]
    outside = first_outside(frame, whole, parts)
    if outside is not None:
        return ("outside", kind, outside)
    overlap = first_overlap(frame, parts)
    if overlap is not None:
        return ("overlap", kind, overlap[0], overlap[1])
    rest = open_twice(frame, whole, parts)
    if rest != ZERO:
        return ("gap", kind, rest)
    return None


def first_lack(rule):
    for kind in range(len(rule.shapes())):
        answer = lack_of_kind(rule, kind)
        if answer is not None:
            return answer
    return None


def lack(rule):
    # All that is told of floors asks for it first.
    if "lack" not in rule.reckoned:
        rule.reckoned["lack"] = first_lack(rule)
    return rule.reckoned["lack"]
