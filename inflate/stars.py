"""Stars, pieces with all their neighbours, and whether these tell what a piece was cut from."""

from inflate.errors import TooMany
from inflate.floors import piece_at
from inflate.sides import beside, relations, side_of, steps, to_itself

MOST_STARS = 300


def others_of(pairs):
    return tuple(sorted([(pair[1], pair[2]) for pair in pairs]))


def pairs_of(kind, others):
    return [(kind, other[0], other[1]) for other in others]


def is_closed(rule, kind, others):
    ends = []
    for pair in pairs_of(kind, others):
        ends.extend(side_of(rule, pair))
    # The sides between lie along the border and do not overlap: so they go all around it just where each one ends
    # where another one begins.
    return len(ends) > 0 and all([ends.count(end) == 2 for end in ends])


def star(rule, kind, address):
    others = others_of([pair for other, pair in beside(rule, kind, address)])
    here = piece_at(rule, kind, address)[0]
    return (here, others, is_closed(rule, here, others))


def cut_stars(rule, kind, others):
    cut = rule.cuts()[kind]
    pairs = [[] for part in cut]
    # Who lies beside a part is a part of the same piece, or of one that lies beside that piece.
    for pair in [to_itself(kind)] + pairs_of(kind, others):
        for i, j, led_pair in steps(rule, pair):
            pairs[i].append(led_pair)
    return [(part[0], others_of(found)) for part, found in zip(cut, pairs)]


def put_star(rule, rows, known, found, reason):
    if found in known:
        return
    if len(rows) == MOST_STARS:
        raise TooMany("more than 300 stars are not told")
    known[found] = True
    rows.append((found[0], found[1], is_closed(rule, found[0], found[1]), reason))


def found_stars(rule):
    # Asked for the sake of its refusals.
    relations(rule)
    rows = []
    known = {}
    for kind in range(len(rule.shapes())):
        put_star(rule, rows, known, (kind, ()), ("bare", kind))
    number = 0
    while number < len(rows):
        cut = cut_stars(rule, rows[number][0], rows[number][1])
        for i, found in enumerate(cut):
            put_star(rule, rows, known, found, ("cut", number, i))
        number = number + 1
    return rows


def ups_of(rule, rows):
    ups = {}
    for kind, others, whole, reason in rows:
        for i, found in enumerate(cut_stars(rule, kind, others)):
            known = ups.setdefault(found, [])
            if (kind, i) not in known:
                known.append((kind, i))
    return ups


def stars(rule):
    rows = found_stars(rule)
    ups = ups_of(rule, rows)
    return [(kind, others, sorted(ups[(kind, others)])) for kind, others, whole, reason in sorted(rows) if whole]


def never(rule):
    rows = stars(rule)
    for kind, others, ups in rows:
        if len(ups) > 1:
            return ("open", kind, others, ups)
    return ("never", [(kind, others, ups[0][0], ups[0][1]) for kind, others, ups in rows])
