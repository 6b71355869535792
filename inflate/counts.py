"""How many pieces of each kind come."""

from inflate.floors import refuse_no_fill, refuse_no_floor


def kinds_of(cut, size):
    kinds = [part[0] for part in cut]
    return [kinds.count(kind) for kind in range(size)]


def table(rule):
    refuse_no_fill(rule)
    cuts = rule.cuts()
    return [kinds_of(cut, len(cuts)) for cut in cuts]


def column_sum(rows, weights, j):
    return sum([weight * row[j] for weight, row in zip(weights, rows)])


def counts(rule, kind, n):
    refuse_no_floor(rule, kind)
    rows = table(rule)
    answer = [1 if k == kind else 0 for k in range(len(rows))]
    for step in range(n):
        answer = [column_sum(rows, answer, j) for j in range(len(rows))]
    return answer
