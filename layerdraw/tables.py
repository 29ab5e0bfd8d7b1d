"""Tables: the least crossings of two rows over all orders of the free one, by a table of all its sets of marks.

A set is a whole number whose bit h is set where mark h is in it.
"""

from layerdraw.errors import TooMany
from layerdraw.orders import crossed, ends_across, places_of

MOST_FREE = 8


def members(group):
    return [h for h in range(group.bit_length()) if group >> h & 1 == 1]


def costs_of(fixed, free, lines):
    """Tells what each mark g costs ahead of each mark h: a dict from the tuples (g, h)."""
    far = places_of([fixed])
    ends = ends_across(lines)[0]
    places = []
    for mark in free:
        places.append([far[end] for end in ends.get(mark, [])])
    costs = {}
    for g, ahead in enumerate(places):
        for h, behind in enumerate(places):
            costs[(g, h)] = crossed(ahead, behind)
    return costs


def cost_with_last(table, costs, group, h):
    rest = group - (1 << h)
    return table[rest] + sum([costs[(g, h)] for g in members(rest)])


def table_of(costs, count):
    table = {0: 0}
    for group in range(1, 1 << count):
        table[group] = min([cost_with_last(table, costs, group, h) for h in members(group)])
    return table


def order_by(table, costs, free):
    order = []
    group = (1 << len(free)) - 1
    while group > 0:
        best = [h for h in members(group) if cost_with_last(table, costs, group, h) == table[group]]
        # The rightmost of them stays rightmost, so that marks are not changed about for nothing.
        order.insert(0, free[best[-1]])
        group -= 1 << best[-1]
    return order


def least_order(fixed, free, lines):
    if len(free) > MOST_FREE:
        raise TooMany()
    costs = costs_of(fixed, free, lines)
    table = table_of(costs, len(free))
    return (table[(1 << len(free)) - 1], order_by(table, costs, free), table)
