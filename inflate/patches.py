"""Patches, lists of some pieces: whether two are the same, and where one lies in a floor."""

from inflate.floors import floor_of, refuse_no_fill
from inflate.points import STAY, back, joined


def way_to(frame, one, other):
    return joined(frame, back(frame, one[1]), other[1])


def same_by(rule, one, other):
    refuse_no_fill(rule)
    frame = rule.frame()
    if [piece[0] for piece in one] != [piece[0] for piece in other]:
        return None
    ways = [way_to(frame, piece, due) for piece, due in zip(one, other)]
    # A patch without pieces is the same as itself by staying where it is, too.
    way = ways[0] if ways else STAY
    return way if ways.count(way) == len(ways) else None


def found_by(frame, addresses, patch, move):
    return [addresses.get((kind, joined(frame, own, move))) for kind, own in patch]


def sought(rule, kind, n, patch):
    frame = rule.frame()
    addresses = dict([(piece, address) for address, piece in floor_of(rule, kind, n)])
    if not patch:
        # All of no pieces are pieces of the floor, wherever they are moved.
        return [[]]
    # Where the first piece goes to tells the move.
    firsts = [piece for piece in addresses if piece[0] == patch[0][0]]
    rows = [found_by(frame, addresses, patch, way_to(frame, patch[0], piece)) for piece in firsts]
    return sorted([row for row in rows if None not in row])
