"""Laying: places of the least worth that keep all wishes, with a flow that shows it; or a ring of wishes.

Flow runs from the one of a wish to its other. The places fit at every step, and flow runs only where a wish is kept
just, without slack. So once the flow brings to each point what the weights do, its bound is the places' worth.

The weights are taken in figure by figure, the greatest ones first: sent all at once, there are wishes for which each
two points more double the number of sendings.
"""

from layerdraw.errors import Ring
from layerdraw.papers import left_at_points, weights_of

# Weights are written to this base; by a greater one they have fewer figures, but each figure takes more sendings.
BASE = 16


class Layout:
    def __init__(self, count, wishes):
        self.ones = [wish[0] for wish in wishes]
        self.others = [wish[1] for wish in wishes]
        self.leasts = [wish[2] for wish in wishes]
        self.places = [0] * count
        self.flow = [0] * len(wishes)
        # What the flow has yet to bring to each point; below 0 where it has yet to take it away.
        self.needs = [0] * count
        self.going = [[] for point in range(count)]
        self.coming = [[] for point in range(count)]
        for number, wish in enumerate(wishes):
            self.going[wish[0]].append(number)
            self.coming[wish[1]].append(number)

    def slack(self, number):
        return self.places[self.others[number]] - self.places[self.ones[number]] - self.leasts[number]

    def end_across(self, number, point):
        return self.ones[number] if self.others[number] == point else self.others[number]


def fit(layout):
    """Moves the points from 0 on as far as the wishes push them, so that all are kept."""
    count = len(layout.places)
    pushers = {}
    pushed = None
    for time in range(count):
        pushed = push_once(layout, pushers)
        if pushed is None:
            return
    # Without a ring a push goes on through unlike points, so that none comes about in the last round.
    if pushed is not None:
        raise Ring(ring_behind(layout, pushers, pushed))


def push_once(layout, pushers):
    """Tells a point that was pushed, or None where all wishes are kept."""
    pushed = None
    for number, other in enumerate(layout.others):
        lacking = 0 - layout.slack(number)
        if lacking > 0:
            layout.places[other] += lacking
            pushers[other] = number
            pushed = other
    return pushed


def ring_behind(layout, pushers, point):
    # The point may only hang on the ring; as many steps back as there are points lead onto it.
    for time in layout.places:
        point = layout.ones[pushers[point]]
    ring = [pushers[point]]
    while layout.ones[ring[0]] != point:
        ring.insert(0, pushers[layout.ones[ring[0]]])
    return ring


def send_once(layout):
    """Sends flow from points that have to give it away to the nearest one, by slack, that needs it."""
    far = {}
    came_by = {}
    end = search(layout, far, came_by)
    # So no slack is left on the way to the end, and none comes about where flow runs.
    for point, distance in far.items():
        layout.places[point] += far[end] - distance
    send_along(layout, way_back(layout, came_by, end), end)


def search(layout, far, came_by):
    """Finds how far points are, rising, up to the first one that needs flow, which is told."""
    waiting = {}
    for point, need in enumerate(layout.needs):
        if need < 0:
            waiting[point] = 0
    while True:
        point = min(waiting, key=lambda candidate: waiting[candidate])
        far[point] = waiting.pop(point)
        if layout.needs[point] > 0:
            return point
        look_around(layout, point, far, waiting, came_by)


def look_around(layout, point, far, waiting, came_by):
    steps = [(number, layout.slack(number)) for number in layout.going[point]]
    # Flow can be taken back, too, and where it runs there is no slack.
    steps.extend([(number, 0) for number in layout.coming[point] if layout.flow[number] > 0])
    for number, slack in steps:
        neighbour = layout.end_across(number, point)
        distance = far[point] + slack
        if neighbour not in far and (neighbour not in waiting or distance < waiting[neighbour]):
            waiting[neighbour] = distance
            came_by[neighbour] = number


def way_back(layout, came_by, end):
    """Tells the steps to the end, last one first: tuples of a wish's number and the point where the step ends."""
    steps = []
    point = end
    while point in came_by:
        steps.append((came_by[point], point))
        point = layout.end_across(came_by[point], point)
    return steps


def send_along(layout, steps, end):
    last = steps[-1]
    start = layout.end_across(last[0], last[1])
    back = [number for number, point in steps if layout.ones[number] == point]
    amount = min([layout.needs[end], 0 - layout.needs[start]] + [layout.flow[number] for number in back])
    for number, point in steps:
        layout.flow[number] += amount if layout.others[number] == point else 0 - amount
    layout.needs[start] += amount
    layout.needs[end] -= amount


def parts_of(count, wishes):
    """Tells for each point a number that just the points of its part have."""
    parts = list(range(count))
    for wish in wishes:
        old = parts[wish[1]]
        new = parts[wish[0]]
        parts = [new if part == old else part for part in parts]
    return parts


def from_nought(places, parts):
    least = {}
    for place, part in zip(places, parts):
        least[part] = min(place, least.get(part, place))
    return [place - least[part] for place, part in zip(places, parts)]


def figure_worths(weights):
    """Tells what the figures of the weights are worth, from the first one to the last one, which is worth 1."""
    worths = [1]
    while worths[0] * BASE <= max(weights, default=0):
        worths.insert(0, worths[0] * BASE)
    return worths


def laid(count, wishes):
    layout = Layout(count, wishes)
    fit(layout)
    weights = weights_of(wishes)
    for worth in figure_worths(weights):
        layout.flow = [amount * BASE for amount in layout.flow]
        layout.needs = left_at_points(count, wishes, [weight // worth % BASE for weight in weights])
        while any([need > 0 for need in layout.needs]):
            send_once(layout)
    return (from_nought(layout.places, parts_of(count, wishes)), layout.flow)
