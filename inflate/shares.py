"""What share of a floor's pieces each kind has in the long run."""

from inflate.counts import table
from inflate.errors import NoShares
from inflate.frames import minus, plus
from inflate.points import ZERO

ONE = (1, 0)


def coming(rows, kind):
    known = {}
    waiting = [kind]
    while waiting:
        row = rows[waiting.pop()]
        for j, many in enumerate(row):
            if many > 0 and j not in known:
                known[j] = True
                waiting.append(j)
    return known


def each_from_each(rows):
    return all([len(coming(rows, kind)) == len(rows) for kind in range(len(rows))])


def less_growth(rows, growth):
    answer = []
    for k, row in enumerate(rows):
        answer.append([minus((many, 0), growth if j == k else ZERO) for j, many in enumerate(row)])
    return answer


def total(numbers):
    answer = ZERO
    for number in numbers:
        answer = plus(answer, number)
    return answer


def determinant(frame, matrix):
    if not matrix:
        return ONE
    return total([frame.times(row[0], factor) for row, factor in zip(matrix, cofactors(frame, matrix))])


def cofactors(frame, matrix):
    # Those of the first column: what each of its numbers is multiplied by in the determinant.
    answer = []
    for k in range(len(matrix)):
        rest = determinant(frame, [row[1:] for row in matrix[:k] + matrix[k + 1:]])
        answer.append(rest if k % 2 == 0 else minus(ZERO, rest))
    return answer


def divisor(one, other):
    while other != 0:
        rest = one % other
        one = other
        other = rest
    return abs(one)


def share(frame, part, whole):
    mate = frame.mate(whole)
    number = frame.times(part, mate)
    bottom = frame.times(whole, mate)[0]
    common = divisor(divisor(number[0], number[1]), bottom)
    if bottom < 0:
        common = -common
    return ((number[0] // common, number[1] // common), bottom // common)


def direction(rule):
    rows = table(rule)
    if not each_from_each(rows):
        raise NoShares("some kind does not come from some kind")
    frame = rule.frame()
    matrix = less_growth(rows, frame.times(rule.scale(), rule.scale()))
    # The determinant of the matrix is 0, as the areas of the shapes grow by the table, too. With another column
    # in the place of the first one it is 0 as well: so weighted by these factors each column's sum is 0.
    weights = cofactors(frame, matrix)
    whole = total(weights)
    return [share(frame, weight, whole) for weight in weights]
