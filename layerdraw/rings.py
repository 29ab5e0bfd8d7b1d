"""Which arrows are turned, the ring that a turned one closes, and the points in line."""

from layerdraw.errors import NoSuch
from layerdraw.nets import is_whole


def way(arrows, start, end):
    """Tells the numbers of arrows that lead from start to end, or None where none do."""
    ways = {start: []}
    waiting = [start]
    while waiting:
        point = waiting.pop(0)
        for number, one, other, span, weight in arrows:
            if one == point and other not in ways:
                ways[other] = ways[point] + [number]
                waiting.append(other)
    return ways.get(end)


def kept_arrows(net):
    kept = []
    for arrow in net.arrows():
        if way(kept, arrow[2], arrow[1]) is None:
            kept.append(arrow)
    return kept


def turned(net):
    kept = kept_arrows(net)
    return [arrow[0] for arrow in net.arrows() if arrow not in kept]


def ring_of(net, number):
    kept = kept_arrows(net)
    asked = [arrow for arrow in net.arrows() if arrow[0] == number and arrow not in kept]
    # Asked whether it is whole, as True would else be found as 1.
    if not asked or not is_whole(number):
        raise NoSuch(number)
    return [number] + way(kept, asked[0][2], asked[0][1])


def in_line(net):
    # A turned arrow needs no look: the kept ones lead from its end to its beginning.
    kept = kept_arrows(net)
    line = []
    waiting = net.points()
    while waiting:
        held = [other for number, one, other, span, weight in kept if one in waiting]
        line.extend([name for name in waiting if name not in held])
        waiting = [name for name in waiting if name in held]
    return line
