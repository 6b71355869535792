import copy
import unittest

from inflate.counts import counts, table
from inflate.floors import floor_of
from inflate.rules import Rule
from tests.helper import (FULL, FloorsTest, full, how_many, is_whole, lacking_rules, mixed, rooted, rooted_power,
                          rooted_product)


def twice_in_parts(told, kind):
    """Twice a kind's area, as point 9 has it, in fractions."""
    m, shape = told[0], told[2][kind]
    total = (0, 0)
    for (x, y), (u, v) in zip(shape, shape[1:] + shape[:1]):
        one = rooted_product(m, rooted(m, x), rooted(m, v))
        other = rooted_product(m, rooted(m, y), rooted(m, u))
        total = (total[0] + one[0] - other[0], total[1] + one[1] - other[1])
    return total


class TableTest(FloorsTest):
    def test_as_written(self):
        for name, due in (("square in four", [[4]]), ("square in nine", [[9]]), ("half square in two", [[2]]),
                          ("golden in three and two", [[2, 1], [1, 1]]), ("octagonal", [[3, 4], [2, 3]]),
                          ("golden in two and three", [[1, 1], [1, 2]]), ("hexagon in six", [[0, 6], [0, 4]]),
                          ("triangles of two sizes", [[0, 1], [4, 3]]), ("half squares in turn", [[0, 1], [4, 0]]),
                          ("pentagon in three", [[0, 1, 2], [0, 2, 1], [0, 1, 1]]),
                          ("slow half squares", [[0, 1, 0, 0], [0, 0, 1, 0], [0, 0, 0, 1], [0, 0, 0, 2]]),
                          ("rectangles by one and root 3", [[0, 0, 4], [0, 2, 4], [1, 4, 4]]),
                          ("squares 300", [[4, 0, 0, 0], [8, 2, 0, 0], [8, 3, 0, 1], [0, 0, 0, 4]])):
            self.assertEqual(table(Rule(*full(name))), due)

    def test_parts_of_each_kind(self):
        for told, draw in self.each_rule():
            for way in (told, mixed(draw, told)):
                found = table(Rule(*way))
                self.assertIsInstance(found, list)
                self.assertEqual(len(found), len(told[2]))
                for row, cut in zip(found, told[3]):
                    self.assertIsInstance(row, list)
                    self.assertTrue(all(is_whole(many) for many in row))
                    self.assertEqual(row, [sum(part[0] == kind for part in cut) for kind in range(len(told[2]))])

    def test_new_lists_each_time(self):
        for told, draw in self.each_rule(anew=0):
            rule = Rule(*told)
            first = table(rule)
            due = copy.deepcopy(first)
            second = table(rule)
            self.assertIsNot(second, first)
            for row, other in zip(first, second):
                self.assertIsNot(row, other)
                row.append(99)
                row[0] = -1
            self.assertEqual(second, due)
            second.clear()
            self.assertEqual(table(rule), due)
            self.assertEqual([counts(rule, kind, 1) for kind in range(len(due))], due)

    def test_rows_of_like_cuts_are_not_one(self):
        rule = Rule(*full("squares with 121 relations"))
        found = table(rule)
        self.assertEqual(found, [[1, 3], [3, 1]])
        m, scale, shapes, cuts = full("square in four")
        found = table(Rule(m, scale, shapes * 2, cuts * 2))
        self.assertEqual(found, [[4, 0], [4, 0]])
        found[0].append(1)
        self.assertEqual(found[1], [4, 0])


class CountsTest(FloorsTest):
    def test_as_written(self):
        golden = Rule(*full("golden in three and two"))
        self.assertEqual([counts(golden, 0, n) for n in range(5)], [[1, 0], [2, 1], [5, 3], [13, 8], [34, 21]])
        self.assertEqual([counts(golden, 1, n) for n in range(5)], [[0, 1], [1, 1], [3, 2], [8, 5], [21, 13]])
        hexagon = Rule(*full("hexagon in six"))
        self.assertEqual([counts(hexagon, 0, n) for n in range(4)], [[1, 0], [0, 6], [0, 24], [0, 96]])
        turns = Rule(*full("half squares in turn"))
        self.assertEqual([counts(turns, 0, n) for n in range(5)], [[1, 0], [0, 1], [4, 0], [0, 4], [16, 0]])

    def test_grown_none_times(self):
        for told, draw in self.each_rule():
            size = len(told[2])
            for kind in range(size):
                self.assertEqual(counts(Rule(*told), kind, 0), [int(k == kind) for k in range(size)])

    def test_grown_once_it_is_a_row_of_the_table(self):
        for told, draw in self.each_rule():
            rule = Rule(*told)
            self.assertEqual([counts(rule, kind, 1) for kind in range(len(told[2]))], table(rule))

    def test_against_floors(self):
        for told, draw, rule, kind, n in self.each_floor():
            kinds = [piece[0] for address, piece in floor_of(rule, kind, n)]
            self.assertEqual(counts(rule, kind, n), [kinds.count(k) for k in range(len(told[2]))])

    def test_from_first_parts_and_from_last_ones(self):
        # Grown n + k times a kind has what the kinds that it has, grown n times, have when they are grown k times.
        for told, draw in self.each_rule(anew=0):
            rule, size = Rule(*told), len(told[2])
            for kind in range(size):
                for n, k in ((1, 1), (3, 4), (7, 12), (60, 140), (199, 1), (1, 199), (100, 100)):
                    first = counts(rule, kind, n)
                    later = [counts(rule, middle, k) for middle in range(size)]
                    self.assertEqual(counts(rule, kind, n + k), [
                        sum(first[middle] * later[middle][last] for middle in range(size)) for last in range(size)])

    def test_the_form_of_lists(self):
        for told, draw in self.each_rule(anew=0):
            for n in (0, 1, 2, 13, 199, 200):
                for kind in range(len(told[2])):
                    found = counts(Rule(*told), kind, n)
                    self.assertIsInstance(found, list)
                    self.assertTrue(all(is_whole(many) and many >= 0 for many in found))
                    self.assertEqual(sum(found), how_many(told, kind, n))

    def test_200_growings_by_areas(self):
        # The pieces fill the kind's shape, grown as often.
        for told, draw in self.each_rule(anew=0):
            m = told[0]
            twices = [twice_in_parts(told, kind) for kind in range(len(told[2]))]
            for n in (2, 50, 200):
                for kind, twice in enumerate(twices):
                    due = rooted_product(m, twice, rooted_power(m, rooted(m, told[1]), 2 * n))
                    found = counts(Rule(*told), kind, n)
                    self.assertEqual(tuple(sum(many * part[side] for many, part in zip(found, twices))
                                           for side in (0, 1)), due)

    def test_kinds_that_are_cut_into_themselves_alone(self):
        for name, kind, parts in (("squares 300", 0, 4), ("squares 300", 3, 4), ("hexagon in six", 1, 4),
                                  ("golden strips", 0, 4), ("golden strips", 1, 4), ("square in nine", 0, 9)):
            size = len(full(name)[2])
            for n in (0, 1, 2, 17, 200):
                self.assertEqual(counts(Rule(*full(name)), kind, n),
                                 [parts ** n if k == kind else 0 for k in range(size)])

    def test_slow_ones(self):
        rule = Rule(*full("slow half squares"))
        self.assertEqual([counts(rule, 0, n) for n in range(5)],
                         [[1, 0, 0, 0], [0, 1, 0, 0], [0, 0, 1, 0], [0, 0, 0, 1], [0, 0, 0, 2]])
        self.assertEqual(counts(rule, 0, 200), [0, 0, 0, 2 ** 197])
        self.assertEqual(counts(rule, 3, 200), [0, 0, 0, 2 ** 200])

    def test_somewhat_more_than_200(self):
        # Nothing is refused for that.
        self.assertEqual(counts(Rule(*full("square in four")), 0, 201), [4 ** 201])
        self.assertEqual(counts(Rule(*full("square in nine")), 0, 230), [9 ** 230])

    def test_floors_of_too_many_pieces(self):
        rule = Rule(*full("squares 301"))
        self.refused("TooMany", floor_of, rule, 2, 3)
        self.assertEqual(sum(counts(rule, 2, 3)), 301)

    def test_new_lists_each_time(self):
        for told, draw in self.each_rule(anew=0):
            rule = Rule(*told)
            for n in (0, 1, 2, 9):
                first = counts(rule, 0, n)
                due = list(first)
                self.assertIsNot(counts(rule, 0, n), first)
                first[0] = -7
                first.append(None)
                counts(rule, 0, n).clear()
                counts(rule, len(told[2]) - 1, n + 1)
                self.assertEqual(counts(rule, 0, n), due)

    def test_what_is_changed_in_what_was_handed_in(self):
        m, scale, shapes, cuts = full("golden in three and two")
        rule = Rule(m, scale, shapes, cuts)
        cuts[0].append(cuts[0][0])
        cuts.append([])
        self.assertEqual(table(rule), [[2, 1], [1, 1]])
        rule.cuts()[0].clear()
        self.assertEqual(counts(rule, 0, 2), [5, 3])


class RefusedTest(FloorsTest):
    def test_no_kind(self):
        for told, draw in self.each_rule(anew=0):
            rule, size = Rule(*told), len(told[2])
            for kind in (-1, -size, size, size + 1, 10 ** 59, -10 ** 59):
                for n in (0, 1, 200):
                    self.refused("NoKind", counts, rule, kind, n)

    def test_no_fill_goes_ahead(self):
        for told, due in lacking_rules():
            rule, size = Rule(*told), len(told[2])
            self.assertEqual(self.refused("NoFill", table, rule).lack, due)
            for kind in (0, size - 1, -1, size, 10 ** 59):
                for n in (0, 1, 200):
                    self.assertEqual(self.refused("NoFill", counts, rule, kind, n).lack, due)

    def test_no_fill_where_only_another_kind_lacks(self):
        m, scale, shapes, cuts = full("hexagon in six")
        rule = Rule(m, scale, shapes, [cuts[0][:5], cuts[1]])
        self.assertEqual(self.refused("NoFill", counts, rule, 1, 2).lack, ("gap", 0, (4, 0)))
        self.assertEqual(self.refused("NoFill", table, rule).lack, ("gap", 0, (4, 0)))

    def test_refusals_change_nothing(self):
        for name in FULL:
            rule = Rule(*full(name))
            self.refused("NoKind", counts, rule, 4, 3)
            self.assertEqual(table(rule), table(Rule(*full(name))))


if __name__ == "__main__":
    unittest.main()
