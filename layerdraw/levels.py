"""Levels: the wishes of a net, levels of the least length that keep it, and rows and lines by levels."""

from layerdraw.errors import TooLong
from layerdraw.items import Own, Small
from layerdraw.laying import laid
from layerdraw.papers import fits, worth
from layerdraw.rings import turned
from layerdraw.sideways import heavy

MOST_ROWS = 20
MOST_SMALL = 60


def wishes_of(net):
    numbers = dict([(name, number) for number, name in enumerate(net.points())])
    turned_about = turned(net)
    wishes = []
    for number, one, other, span, weight in net.arrows():
        if number in turned_about:
            wishes.append((numbers[other], numbers[one], span, weight))
        else:
            wishes.append((numbers[one], numbers[other], span, weight))
    for one, other in net.sames():
        wishes.append((numbers[one], numbers[other], 0, 0))
        wishes.append((numbers[other], numbers[one], 0, 0))
    for one, other, number in net.mosts():
        wishes.append((numbers[other], numbers[one], 0 - number, 0))
    return wishes


def places_by(net, levels):
    return [levels[name] for name in net.points()]


def keeps_net(net, levels):
    return fits(len(net.points()), wishes_of(net), places_by(net, levels))


def length(net, levels):
    return worth(wishes_of(net), places_by(net, levels))


def levelled(net):
    points = net.points()
    answer = laid(len(points), wishes_of(net))
    return (dict(zip(points, answer[0])), answer[1])


def own_item(net, name):
    return Own(name, net.half_of(name))


def items_along(net, levels, arrow):
    """Tells the items of an arrow, from its upper end down to its lower one."""
    # Asked of the levels, as a turned arrow goes up.
    ends = sorted([arrow[1], arrow[2]], key=lambda name: levels[name])
    small = [Small(arrow[0], step) for step in range(1, levels[ends[1]] - levels[ends[0]])]
    return [own_item(net, ends[0])] + small + [own_item(net, ends[1])]


def filled_rows(net, levels, count, ways):
    rows = [[] for level in range(count)]
    for name in net.points():
        rows[levels[name]].append(own_item(net, name))
    for way in ways:
        for item in way[1:-1]:
            rows[levels[way[0].name] + item.step].append(item)
    return rows


def lines_along(way, weight):
    return [(upper.label(), lower.label(), heavy(upper, lower, weight)) for upper, lower in zip(way, way[1:])]


def rows_of(net, levels):
    count = max([level + 1 for level in places_by(net, levels)], default=0)
    # Refused ahead of the items, as levels told by somebody else may be far apart.
    if count > MOST_ROWS:
        raise TooLong()
    arrows = net.arrows()
    ways = [items_along(net, levels, arrow) for arrow in arrows]
    if sum([len(way) - 2 for way in ways]) > MOST_SMALL:
        raise TooLong()
    lines = []
    for arrow, way in zip(arrows, ways):
        lines.extend(lines_along(way, arrow[4]))
    return (filled_rows(net, levels, count, ways), lines)


def marks_of(rows):
    marks = []
    for row in rows:
        marks.append([item.label() for item in row])
    return marks


def halves_of(rows):
    halves = {}
    for row in rows:
        halves.update([(item.label(), item.half()) for item in row])
    return halves


def pairs_of(lines):
    return [(upper, lower) for upper, lower, weight in lines]
