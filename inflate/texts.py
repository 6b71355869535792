"""Rules as texts: numbers, points, and a line for each thing that a rule is made of."""

from inflate.errors import NoText
from inflate.rules import Rule

FIGURES = "0123456789"
MOST_WHOLE = 1000
MOST_WHOLE_FIGURES = 4
# In these frames w is a whole number, and no number is written with it.
WHOLE_FRAMES = (4, 6)


def refuse_unless(right):
    if not right:
        raise NoText("a rule is written in lines, from its frame to the parts of its last cut")


def is_figures(text, most):
    # Noughts stand ahead of nothing: so no number has two writings.
    if len(text) < 1 or len(text) > most or (text[0] == "0" and text != "0"):
        return False
    return all([sign in FIGURES for sign in text])


def read_whole(text):
    below = text.startswith("-")
    figures = text[1:] if below else text
    refuse_unless(is_figures(figures, MOST_WHOLE_FIGURES))
    answer = -int(figures) if below else int(figures)
    refuse_unless(text != "-0" and abs(answer) <= MOST_WHOLE)
    return answer


def read_number(m, text):
    words = text.split(",")
    if len(words) == 1:
        return (read_whole(text), 0)
    refuse_unless(len(words) == 2 and m not in WHOLE_FRAMES)
    b = read_whole(words[1])
    refuse_unless(b != 0)
    return (read_whole(words[0]), b)


def read_point(m, text):
    words = text.split(":")
    refuse_unless(len(words) == 2)
    return (read_number(m, words[0]), read_number(m, words[1]))


def read_shape(m, line):
    return [read_point(m, word) for word in line.split(" ")[1:]]


def read_part(m, line):
    words = line.split(" ")
    refuse_unless(len(words) == 5)
    move = (read_whole(words[2]), read_whole(words[3]), read_point(m, words[4]))
    return (read_whole(words[1]), move)


def read_word(line, word):
    words = line.split(" ")
    refuse_unless(len(words) == 2 and words[0] == word)
    return words[1]


def begins(line, word):
    return line.split(" ")[0] == word


def read_cuts(m, lines):
    cuts = []
    for line in lines:
        if line == "cut":
            cuts.append([])
        else:
            refuse_unless(len(cuts) > 0 and begins(line, "part"))
            cuts[-1].append(read_part(m, line))
    return cuts


def shape_end(lines):
    end = 0
    while end < len(lines) and begins(lines[end], "shape"):
        end = end + 1
    return end


def read_rule(text):
    refuse_unless(isinstance(text, str))
    lines = text.split("\n")
    refuse_unless(len(lines) > 1)
    m = read_whole(read_word(lines[0], "frame"))
    scale = read_number(m, read_word(lines[1], "scale"))
    rest = lines[2:]
    end = shape_end(rest)
    shapes = [read_shape(m, line) for line in rest[:end]]
    # All is read ahead of the rule's own refusals.
    return Rule(m, scale, shapes, read_cuts(m, rest[end:]))


def show_number(number):
    a = number[0]
    b = number[1]
    return str(a) if b == 0 else f"{a},{b}"


def show_point(point):
    return ":".join([show_number(number) for number in point])


def show_piece(piece):
    move = piece[1]
    return " ".join([str(piece[0]), str(move[0]), str(move[1]), show_point(move[2])])


def show_shape(shape):
    return " ".join(["shape"] + [show_point(point) for point in shape])


def show_part(part):
    return " ".join(["part", show_piece(part)])


def show_rule(rule):
    lines = [" ".join(["frame", str(rule.frame().size())]), " ".join(["scale", show_number(rule.scale())])]
    lines.extend([show_shape(shape) for shape in rule.shapes()])
    for cut in rule.cuts():
        lines.append("cut")
        lines.extend([show_part(part) for part in cut])
    return "\n".join(lines)
