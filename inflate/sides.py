"""Who lies beside whom in a floor, and how: relations (k, l, move) of two pieces."""

from inflate.errors import TooMany
from inflate.floors import part_of, piece_at, refuse_no_fill, refuse_no_floor
from inflate.looks import corners
from inflate.points import STAY, back, joined
from inflate.shapes import side_between, sides

MOST_RELATIONS = 120


def to_itself(kind):
    return (kind, kind, STAY)


def relation_of(frame, one, other):
    return (one[0], other[0], joined(frame, other[1], back(frame, one[1])))


def laid_parts(rule, piece):
    parts = [part_of(rule, piece, part) for part in rule.cuts()[piece[0]]]
    return [(part, corners(rule, part)) for part in parts]


def reckoned_steps(rule, pair):
    frame = rule.frame()
    others = laid_parts(rule, (pair[1], pair[2]))
    answer = []
    for i, one in enumerate(laid_parts(rule, (pair[0], STAY))):
        for j, other in enumerate(others):
            # A part is not beside itself, as it would come out where a piece stands in the pair twice.
            if one[0] != other[0] and side_between(frame, one[1], other[1]) is not None:
                answer.append((i, j, relation_of(frame, one[0], other[0])))
    return answer


def steps(rule, pair):
    # The parts of a pair that are neighbours, by their numbers, with their relation. The same pairs come again
    # and again wherever a floor is looked at.
    key = ("steps", pair)
    if key not in rule.reckoned:
        rule.reckoned[key] = reckoned_steps(rule, pair)
    return rule.reckoned[key]


def side_of(rule, pair):
    key = ("side", pair)
    if key not in rule.reckoned:
        rule.reckoned[key] = side_between(rule.frame(), corners(rule, (pair[0], STAY)), corners(rule, pair[1:]))
    return rule.reckoned[key]


def cut_rows(rule, rows, number):
    answer = []
    for address, pair in rows:
        for i, j, led_pair in steps(rule, pair):
            if i == number:
                answer.append((address + (j,), led_pair))
    return answer


def beside(rule, kind, address):
    # The neighbours' addresses, each with the relation of the piece to it. The piece is asked for the sake of
    # its refusals.
    piece_at(rule, kind, address)
    cuts = rule.cuts()
    here = kind
    rows = []
    for place, number in enumerate(address):
        # Who lies beside a part is a part of the same piece, or of one that lies beside that piece.
        rows = cut_rows(rule, rows + [(address[:place], to_itself(here))], number)
        here = cuts[here][number][0]
    return rows


def neighbours(rule, kind, address):
    return sorted([other for other, pair in beside(rule, kind, address)])


def relation(rule, one, other):
    refuse_no_floor(rule, one[0])
    refuse_no_floor(rule, other[0])
    return relation_of(rule.frame(), one, other)


def led(rule, relation, i, j):
    refuse_no_floor(rule, relation[0])
    refuse_no_floor(rule, relation[1])
    for one, other, led_pair in steps(rule, relation):
        if one == i and other == j:
            return led_pair
    return None


def put_new(rows, known, found, word, number):
    for i, j, pair in found:
        if pair not in known:
            if len(rows) == MOST_RELATIONS:
                raise TooMany("more than 120 relations are not told")
            known[pair] = True
            rows.append((pair, (word, number, i, j)))


def relations(rule):
    refuse_no_fill(rule)
    rows = []
    known = {}
    for kind in range(len(rule.shapes())):
        put_new(rows, known, steps(rule, to_itself(kind)), "cut", kind)
    number = 0
    while number < len(rows):
        put_new(rows, known, steps(rule, rows[number][0]), "led", number)
        number = number + 1
    return rows


def is_whole_side(shape, side):
    return side in [tuple(sorted(ends)) for ends in sides(shape)]


def is_side_on_side(rule, pair):
    side = side_of(rule, pair)
    return is_whole_side(corners(rule, (pair[0], STAY)), side) and is_whole_side(corners(rule, pair[1:]), side)


def side_on_side(rule):
    return all([is_side_on_side(rule, pair) for pair, reason in relations(rule)])
