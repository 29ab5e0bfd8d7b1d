"""The desk: a net and its levels, told line by line; each line is answered by a text."""

from layerdraw.changes import again
from layerdraw.errors import NoLine, NoPoint, Stale
from layerdraw.levels import halves_of, keeps_net, length, levelled, marks_of, pairs_of, rows_of
from layerdraw.nets import Net, in_range
from layerdraw.orders import all_crossings, settled, swept
from layerdraw.pictures import picture
from layerdraw.reading import is_written_number, net_text, put_line
from layerdraw.rings import ring_of, turned
from layerdraw.sideways import sideways

SWEEPS = 4
LEAST_GAP = 1
GREATEST_GAP = 50


def numbers_text(numbers):
    return " ".join([str(number) for number in numbers])


def put_text(net, line):
    number = put_line(net, line)
    # Only an arrow is told by a number.
    return "ok" if number is None else f"arrow {number}"


def levels_text(net, levels):
    parts = [name + " " + str(levels[name]) for name in net.points() if name in levels]
    return "; ".join(parts) or "none"


def kept_rows(net, levels):
    """Tells the rows and lines by levels that may have been kept from ahead of a change."""
    for name in net.points():
        if name not in levels:
            raise NoPoint(name)
    if not keeps_net(net, levels):
        raise Stale()
    return rows_of(net, levels)


def in_good_order(rows, lines):
    """Tells the same rows of items, swept and settled."""
    by_label = {}
    for row in rows:
        by_label.update([(item.label(), item) for item in row])
    pairs = pairs_of(lines)
    ordered = []
    for row in settled(swept(marks_of(rows), pairs, SWEEPS), pairs)[0]:
        ordered.append([by_label[mark] for mark in row])
    return ordered


def cross_text(net, levels):
    drawing = kept_rows(net, levels)
    pairs = pairs_of(drawing[1])
    behind = in_good_order(drawing[0], drawing[1])
    return numbers_text([all_crossings(marks_of(rows), pairs) for rows in (drawing[0], behind)])


def draw_text(net, levels, gap):
    drawing = kept_rows(net, levels)
    rows = in_good_order(drawing[0], drawing[1])
    places = sideways(marks_of(rows), halves_of(rows), drawing[1], gap)[0]
    return picture(rows, places)


class Desk:
    def __init__(self):
        self.net = Net()
        self.levels = {}

    def say(self, line):
        words = line.split(" ")
        if len(words) == 1:
            return self.say_word(line)
        if words[0] in ("drop", "ring", "draw"):
            return self.say_number(words[0], words[1:])
        return put_text(self.net, line)

    def say_word(self, word):
        if word == "turned":
            return numbers_text(turned(self.net)) or "none"
        if word == "level":
            return self.level_by(levelled(self.net))
        if word == "again":
            answer = again(self.net, self.levels)
            return self.level_by(answer) + " moves " + str(answer[2])
        if word == "levels":
            return levels_text(self.net, self.levels)
        if word == "cross":
            return cross_text(self.net, self.levels)
        if word == "net":
            return net_text(self.net)
        raise NoLine(0)

    def say_number(self, word, written):
        if len(written) != 1 or not is_written_number(written[0]):
            raise NoLine(0)
        number = int(written[0])
        if word == "drop":
            self.net.take_arrow(number)
            return "ok"
        if word == "ring":
            return numbers_text(ring_of(self.net, number))
        if not in_range(number, LEAST_GAP, GREATEST_GAP):
            raise NoLine(0)
        return draw_text(self.net, self.levels, number)

    def level_by(self, answer):
        self.levels = answer[0]
        return "length " + str(length(self.net, self.levels))
