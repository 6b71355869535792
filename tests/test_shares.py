import copy
import itertools
import unittest
from fractions import Fraction
from math import gcd

from inflate.counts import counts, table
from inflate.rules import Rule
from inflate.shares import direction
from tests.helper import (FULL, SIZES, FloorsTest, full, is_number, is_whole, lacking_rules, mixed, reordered,
                          rooted, rooted_power, rooted_product, rooted_sign, source)

# Rules that have a kind that does not come from some kind.
SHARELESS = ("squares 300", "squares 301", "squares one way", "squares with 120 relations", "hexagon in six",
             "slow half squares", "golden strips", "pentagon in three", "hexagon in six by root 3")


def left_out(told, kind):
    """The rule without one kind, which comes in no cut of the others."""
    m, scale, shapes, cuts = told
    assert all(part[0] != kind for number, cut in enumerate(cuts) if number != kind for part in cut)
    return (m, scale, shapes[:kind] + shapes[kind + 1:],
            [[(part - (part > kind), move) for part, move in cut] for number, cut in enumerate(cuts) if number != kind])


def kinds_from(cuts, kind):
    """The kinds of all floors grown once or more: a kind that comes at all comes in as many growings as there are."""
    found, here = set(), {kind}
    for _ in range(len(cuts)):
        here = {part[0] for k in here for part in cuts[k]}
        found |= here
    return found


class SharesTest(FloorsTest):
    def holds(self, told, shares):
        """All that point 22 says of shares; there is just one such list."""
        m, size = told[0], len(told[2])
        self.assertIsInstance(shares, list)
        self.assertEqual(len(shares), size)
        values = []
        for share in shares:
            self.assertTrue(isinstance(share, tuple) and len(share) == 2)
            number, bottom = share
            self.assertTrue(is_number(m, number))
            self.assertTrue(is_whole(bottom) and bottom >= 1)
            self.assertEqual(gcd(bottom, *number), 1)
            values.append(tuple(part / bottom for part in rooted(m, number)))
            self.assertEqual(rooted_sign(m, values[-1]), 1)
        self.assertEqual(self.total(values), (1, 0))
        growth = rooted_power(m, rooted(m, told[1]), 2)
        for j in range(size):
            column = [sum(part[0] == j for part in cut) for cut in told[3]]
            due = rooted_product(m, values[j], growth)
            self.assertEqual(self.total([(u * many, v * many) for (u, v), many in zip(values, column)]), due)

    def total(self, values):
        return tuple(sum((value[side] for value in values), Fraction(0)) for side in (0, 1))

    def each_with_shares(self):
        for told, draw in self.each_rule():
            if all(len(kinds_from(told[3], kind)) == len(told[2]) for kind in range(len(told[2]))):
                yield told, draw


class DirectionTest(SharesTest):
    def test_as_written(self):
        for name, due in (
                ("square in four", [((1, 0), 1)]), ("triangle in nine", [((1, 0), 1)]),
                ("half square in two", [((1, 0), 1)]), ("right triangle in three", [((1, 0), 1)]),
                ("golden in three and two", [((-1, 1), 1), ((2, -1), 1)]),
                ("golden in two and three", [((2, -1), 1), ((-1, 1), 1)]),
                ("octagonal", [((-1, 1), 1), ((2, -1), 1)]),
                ("offset squares", [((1, 0), 2), ((1, 0), 2)]),
                ("triangles of two sizes", [((1, 0), 2), ((1, 0), 2)]),
                ("half squares in turn", [((2, 0), 3), ((1, 0), 3)]),
                ("squares 300 thrice", [((25, 0), 42), ((2, 0), 7), ((2, 0), 21), ((1, 0), 42)])):
            self.assertEqual(direction(Rule(*full(name))), due, name)

    def test_one_kind(self):
        seen = set()
        for told, draw in self.each_rule():
            if len(told[2]) == 1:
                self.assertEqual(direction(Rule(*told)), [((1, 0), 1)])
                seen.add(told[0])
        self.assertEqual(seen, set(SIZES) - {10})

    def test_each_rule_keeps_to_the_table(self):
        seen = set()
        for told, draw in self.each_with_shares():
            for way in (told, mixed(draw, told)):
                self.holds(way, direction(Rule(*way)))
            seen.add((told[0], len(told[2]) > 1))
        self.assertEqual({m for m, several in seen if several}, set(SIZES))

    def test_kinds_in_another_order(self):
        for told, draw in self.each_with_shares():
            shares = direction(Rule(*told))
            for order in itertools.permutations(range(len(told[2]))):
                other = reordered(told, order)
                found = direction(Rule(*other))
                self.holds(other, found)
                self.assertEqual(found, [shares[kind] for kind in order])

    def test_where_a_kind_that_never_comes_is_left_out(self):
        for name, kind in (("hexagon in six", 0), ("pentagon in three", 0), ("hexagon in six by root 3", 0)):
            self.refused("NoShares", direction, Rule(*full(name)))
            told = left_out(full(name), kind)
            self.holds(told, direction(Rule(*told)))
        self.assertEqual(direction(Rule(*left_out(full("hexagon in six by root 3"), 0))), [((1, 0), 4), ((3, 0), 4)])

    def test_twins(self):
        # A kind is told twice; which of both a part is, is left to chance.
        seen = set()
        for name in ("golden in three and two", "golden in two and three", "octagonal", "rectangles by one and root 3"):
            draw = source(f"{self.id()} {name}")
            for _ in range(20):
                told = self.twinned(draw, full(name))
                if any(len(kinds_from(told[3], kind)) < len(told[2]) for kind in range(len(told[2]))):
                    self.refused("NoShares", direction, Rule(*told))
                    continue
                shares = direction(Rule(*told))
                self.holds(told, shares)
                seen.update((gcd(number[0], bottom) > 1, gcd(number[1], bottom) > 1)
                            for number, bottom in shares if bottom > 1)
        # So a divisor of the bottom and one of both numbers alone is found, too.
        self.assertEqual(seen, {(False, False), (True, False), (False, True)})

    def twinned(self, draw, told):
        m, scale, shapes, cuts = told
        twin, other = draw.randrange(len(shapes)), len(shapes)
        new_cuts = [[(draw.choice((twin, other)) if kind == twin else kind, move) for kind, move in cut]
                    for cut in cuts + [cuts[twin]]]
        return m, scale, shapes + [shapes[twin]], new_cuts

    def test_with_root_3(self):
        told = full("rectangles by one and root 3")
        shares = direction(Rule(*told))
        self.holds(told, shares)
        self.assertEqual(shares, [((7, -4), 1), ((-10, 6), 1), ((4, -2), 1)])

    def test_in_turn(self):
        # Each comes from each, though never all at once.
        told = full("half squares in turn")
        self.assertEqual(table(Rule(*told)), [[0, 1], [4, 0]])
        self.holds(told, direction(Rule(*told)))

    def test_counts_come_near(self):
        for told, draw in self.each_with_shares():
            rule, m = Rule(*told), told[0]
            if table(rule) == [[0, 1], [4, 0]]:
                # Here one kind comes alone, then the other one: so they come near nothing.
                continue
            shares = direction(rule)
            for kind in range(len(told[2])):
                many = counts(rule, kind, 200)
                for (number, bottom), count in zip(shares, many):
                    u, v = rooted(m, number)
                    near = Fraction(count, sum(many)) * bottom
                    self.assertEqual(rooted_sign(m, (u - near + Fraction(1, 10 ** 20), v)), 1)
                    self.assertEqual(rooted_sign(m, (near - u + Fraction(1, 10 ** 20), -v)), 1)

    def test_new_lists_each_time(self):
        for told, draw in self.each_with_shares():
            rule = Rule(*told)
            first = direction(rule)
            due = copy.deepcopy(first)
            second = direction(rule)
            self.assertIsNot(second, first)
            first.reverse()
            first.append(None)
            self.assertEqual(second, due)
            second.clear()
            table(rule)[0].clear()
            self.assertEqual(direction(rule), due)


class NoSharesTest(SharesTest):
    def test_just_where_some_kind_does_not_come_from_some_kind(self):
        refused = []
        for name in FULL:
            told = full(name)
            if any(len(kinds_from(told[3], kind)) < len(told[2]) for kind in range(len(told[2]))):
                self.refused("NoShares", direction, Rule(*told))
                refused.append(name)
            else:
                self.holds(told, direction(Rule(*told)))
        self.assertEqual(sorted(refused), sorted(SHARELESS))

    def test_in_any_order(self):
        for name in SHARELESS:
            for order in itertools.permutations(range(len(full(name)[2]))):
                self.refused("NoShares", direction, Rule(*reordered(full(name), order)))

    def test_a_kind_that_never_comes(self):
        for name in ("hexagon in six", "pentagon in three", "hexagon in six by root 3"):
            told = full(name)
            self.assertTrue(all(part[0] != 0 for cut in told[3] for part in cut))
            self.refused("NoShares", direction, Rule(*told))

    def test_a_kind_that_does_not_come_from_itself(self):
        told = full("slow half squares")
        for kind in range(3):
            self.assertNotIn(kind, kinds_from(told[3], kind))
        self.refused("NoShares", direction, Rule(*told))
        m, scale, shapes, cuts = full("square in four")
        # The second one is cut into the first one alone, and that into itself alone.
        self.refused("NoShares", direction, Rule(m, scale, shapes * 2, cuts * 2))

    def test_where_each_comes_from_itself_alone(self):
        m, scale, shapes, cuts = full("square in four")
        own = [cuts[0], [(1, move) for kind, move in cuts[0]]]
        self.assertEqual(table(Rule(m, scale, shapes * 2, own)), [[4, 0], [0, 4]])
        self.refused("NoShares", direction, Rule(m, scale, shapes * 2, own))

    def test_where_all_come_but_one_from_one(self):
        told = full("squares one way")
        self.assertEqual([kinds_from(told[3], kind) for kind in (0, 1)], [{0}, {0, 1}])
        self.refused("NoShares", direction, Rule(*told))

    def test_where_all_come_but_one(self):
        # Four squares; the last one comes from none, or has none of the others, the others each from each.
        m, scale, shapes, cuts = full("square in four")
        moves = [move for kind, move in cuts[0]]
        ring = [(0, 1, 1, 2), (1, 2, 2, 2), (0, 0, 2, 2)]
        for rows, come in (
                (ring + [(3, 0, 1, 2)], False), (ring[:2] + [(0, 0, 3, 2), (3, 3, 3, 3)], False),
                (ring[:2] + [(0, 0, 3, 2), (3, 3, 3, 0)], True), (ring[:2] + [(3, 3, 2, 2), (3, 3, 3, 0)], True),
                (ring[:2] + [(0, 0, 3, 2), (2, 2, 2, 2)], True)):
            told = (m, scale, shapes * 4, [list(zip(row, moves)) for row in rows])
            if come:
                self.holds(told, direction(Rule(*told)))
            else:
                self.refused("NoShares", direction, Rule(*told))

    def test_a_long_way_round(self):
        # Each kind is cut into the next one alone, the last one into the first one as well as itself.
        m, scale, shapes, cuts = full("square in four")
        moves = [move for kind, move in cuts[0]]
        rows = [(1,) * 4, (2,) * 4, (3,) * 4, (0, 3, 3, 3)]
        told = (m, scale, shapes * 4, [list(zip(row, moves)) for row in rows])
        self.holds(told, direction(Rule(*told)))
        self.assertEqual(direction(Rule(*told)), [((1, 0), 7)] * 3 + [((4, 0), 7)])
        rows[3] = (0,) * 4
        told = (m, scale, shapes * 4, [list(zip(row, moves)) for row in rows])
        self.assertEqual(direction(Rule(*told)), [((1, 0), 4)] * 4)

    def test_any_squares(self):
        # Squares cut by chance into squares of four kinds.
        m, scale, shapes, cuts = full("square in nine")
        moves = [move for kind, move in cuts[0]]
        seen = set()
        for number in range(60):
            draw = source(f"{self.id()} {number}")
            size = draw.randrange(1, 5)
            few = [[draw.randrange(size) for _ in range(draw.choice((1, 1, 2, 3)))] for _ in range(size)]
            told = (m, scale, shapes * size, [[(draw.choice(row), move) for move in moves] for row in few])
            come = all(len(kinds_from(told[3], kind)) == size for kind in range(size))
            if come:
                self.holds(told, direction(Rule(*told)))
            else:
                self.refused("NoShares", direction, Rule(*told))
            seen.add((size, come))
        self.assertEqual(seen, {(1, True)} | {(size, come) for size in (2, 3, 4) for come in (True, False)})

    def test_no_fill_goes_ahead(self):
        for told, due in lacking_rules():
            self.assertEqual(self.refused("NoFill", direction, Rule(*told)).lack, due)
        for name in SHARELESS:
            m, scale, shapes, cuts = full(name)
            rule = Rule(m, scale, shapes, cuts[:-1] + [cuts[-1][:-1]])
            self.assertEqual(self.refused("NoFill", direction, rule).lack[:2], ("gap", len(shapes) - 1))

    def test_refused_again(self):
        for name in SHARELESS:
            rule = Rule(*full(name))
            due = table(rule)
            self.refused("NoShares", direction, rule)
            self.refused("NoShares", direction, rule)
            self.assertEqual(table(rule), due)


if __name__ == "__main__":
    unittest.main()
