"""A net's text, and the net that is read from a text."""

from layerdraw.errors import DrawError, NoLine
from layerdraw.nets import Net

FIGURES = "0123456789"
MOST_FIGURES = 7

# How many names a line has, how many numbers it needs, and what stands for those it may leave out.
LINES = {"point": (1, 0, (0,)), "arrow": (2, 0, (1, 1)), "same": (2, 0, ()), "most": (2, 1, ())}


def is_written_number(word):
    if len(word) < 1 or len(word) > MOST_FIGURES or not all([sign in FIGURES for sign in word]):
        return False
    return word == "0" or word[0] != "0"


def numbers_of(words, needed, left_out):
    missing = needed + len(left_out) - len(words)
    if missing < 0 or missing > len(left_out) or not all([is_written_number(word) for word in words]):
        # A line by itself is the line 0.
        raise NoLine(0)
    return [int(word) for word in words] + list(left_out[len(left_out) - missing:])


def put_line(net, line):
    """Puts in what one line says and tells what the net tells of it."""
    words = line.split(" ")
    kind = words[0]
    if kind not in LINES:
        raise NoLine(0)
    form = LINES[kind]
    names = words[1:1 + form[0]]
    if len(names) < form[0]:
        raise NoLine(0)
    numbers = numbers_of(words[1 + form[0]:], form[1], form[2])
    if kind == "point":
        return net.put_point(names[0], numbers[0])
    if kind == "arrow":
        return net.put_arrow(names[0], names[1], numbers[0], numbers[1])
    if kind == "same":
        return net.put_same(names[0], names[1])
    return net.put_most(names[0], names[1], numbers[0])


def read_net(text):
    net = Net()
    if text == "":
        return net
    for number, line in enumerate(text.split("\n")):
        try:
            put_line(net, line)
        except DrawError:
            raise NoLine(number) from None
    return net


def point_line(name, half):
    if half == 0:
        return f"point {name}"
    return f"point {name} {half}"


def arrow_line(one, other, span, weight):
    if weight != 1:
        return f"arrow {one} {other} {span} {weight}"
    if span != 1:
        return f"arrow {one} {other} {span}"
    return f"arrow {one} {other}"


def net_text(net):
    lines = [point_line(name, net.half_of(name)) for name in net.points()]
    lines.extend([arrow_line(one, other, span, weight) for number, one, other, span, weight in net.arrows()])
    lines.extend([f"same {one} {other}" for one, other in net.sames()])
    lines.extend([f"most {one} {other} {number}" for one, other, number in net.mosts()])
    return "\n".join(lines)
