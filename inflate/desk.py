"""A desk for one rule: it is told rows of words and answers with texts."""

from inflate.counts import counts
from inflate.errors import NoAddress, NoRow
from inflate.floors import piece_at, refuse_no_floor
from inflate.looks import lack
from inflate.patches import sought
from inflate.shares import direction
from inflate.sides import neighbours, relations
from inflate.stars import never
from inflate.texts import is_figures, read_rule, show_number, show_piece, show_rule

MOST_FIGURES = 3
MOST_GROWN = 200
MOST_SOUGHT_IN = 12
MOST_SOUGHT = 6


def refuse_unless(right):
    if not right:
        raise NoRow("a row is a word of the desk's with what belongs to it, parted by single blanks")


def read_figures(word):
    refuse_unless(is_figures(word, MOST_FIGURES))
    return int(word)


def read_up_to(word, most):
    answer = read_figures(word)
    refuse_unless(answer <= most)
    return answer


def read_address(word):
    if word == "-":
        return ()
    return tuple([read_figures(number) for number in word.split(".")])


def show_address(address):
    return ".".join([str(number) for number in address]) if address else "-"


def show_lack(lacking):
    if lacking is None:
        return "full"
    words = [show_number(thing) if isinstance(thing, tuple) else str(thing) for thing in lacking]
    return " ".join(words)


def show_near(addresses):
    return " ".join([show_address(address) for address in addresses]) if addresses else "none"


def show_share(share):
    return "/".join([show_number(share[0]), str(share[1])])


def look(rule):
    return show_lack(lack(rule))


def how_many_relations(rule):
    return str(len(relations(rule)))


def shares(rule):
    return " ".join([show_share(share) for share in direction(rule)])


def grow(rule, kind, n):
    return " ".join([str(count) for count in counts(rule, kind, n)])


def find(rule, kind, n, addresses):
    refuse_no_floor(rule, kind)
    if any([len(address) != n for address in addresses]):
        raise NoAddress("each address of a patch has as many numbers as the floor is grown")
    return str(len(sought(rule, kind, n, [piece_at(rule, kind, address) for address in addresses])))


def answer_word(rule, word):
    if word == "look":
        return look(rule)
    if word == "show":
        return show_rule(rule)
    if word == "relations":
        return how_many_relations(rule)
    if word == "shares":
        return shares(rule)
    refuse_unless(word == "never")
    return never(rule)[0]


def answer_two(rule, word, kind, last):
    if word == "grow":
        return grow(rule, kind, read_up_to(last, MOST_GROWN))
    refuse_unless(word in ("piece", "near"))
    address = read_address(last)
    if word == "piece":
        return show_piece(piece_at(rule, kind, address))
    return show_near(neighbours(rule, kind, address))


def answer_find(rule, kind, last, words):
    n = read_up_to(last, MOST_SOUGHT_IN)
    refuse_unless(len(words) <= MOST_SOUGHT)
    return find(rule, kind, n, [read_address(word) for word in words])


class Desk:
    def __init__(self, text):
        self.rule = read_rule(text)

    def say(self, row):
        refuse_unless(isinstance(row, str))
        words = row.split(" ")
        if len(words) == 1:
            return answer_word(self.rule, words[0])
        kind = read_figures(words[1])
        if len(words) == 3:
            return answer_two(self.rule, words[0], kind, words[2])
        refuse_unless(len(words) > 3 and words[0] == "find")
        return answer_find(self.rule, kind, words[2], words[3:])
