"""Floors grown of one piece, and their pieces by addresses."""

from inflate.errors import NoAddress, NoFill, TooMany
from inflate.looks import corners, lack, refuse_no_kind
from inflate.points import STAY, joined, scaled
from inflate.rules import is_below
from inflate.shapes import where

MOST_NUMBERS = 12
MOST_PIECES = 300


def refuse_no_fill(rule):
    lacking = lack(rule)
    if lacking is not None:
        raise NoFill(lacking)


def refuse_no_floor(rule, kind):
    refuse_no_fill(rule)
    refuse_no_kind(rule, kind)


def spread(rule, move):
    return (move[0], move[1], scaled(rule.frame(), move[2], rule.scale()))


def part_of(rule, piece, part):
    # A floor's offs are multiplied by powers of the scale: once more for each growing behind their own.
    return (part[0], joined(rule.frame(), part[1], spread(rule, piece[1])))


def piece_at(rule, kind, address):
    refuse_no_floor(rule, kind)
    if len(address) > MOST_NUMBERS:
        raise NoAddress("an address has at most twelve numbers")
    cuts = rule.cuts()
    piece = (kind, STAY)
    for number in address:
        cut = cuts[piece[0]]
        if not is_below(number, len(cut)):
            raise NoAddress("each number of an address is that of a part, from 0")
        piece = part_of(rule, piece, cut[number])
    return piece


def grown_once(rule, cuts, rows):
    answer = []
    for address, piece in rows:
        for number, part in enumerate(cuts[piece[0]]):
            answer.append((address + (number,), part_of(rule, piece, part)))
    return answer


def floor_of(rule, kind, n):
    refuse_no_floor(rule, kind)
    cuts = rule.cuts()
    rows = [((), (kind, STAY))]
    for step in range(n):
        # No floor has less pieces than it had before: so one that has too many stays so.
        if sum([len(cuts[piece[0]]) for address, piece in rows]) > MOST_PIECES:
            raise TooMany("a floor of more than 300 pieces is not told")
        rows = grown_once(rule, cuts, rows)
    return rows


def holders(rule, kind, n, point):
    frame = rule.frame()
    return [address for address, piece in floor_of(rule, kind, n) if where(frame, corners(rule, piece), point) > -1]
