"""Papers: whether places fit, their worth, the bound of a flow, and whether a list is a ring of wishes."""

from layerdraw.errors import NoFlow


def fits(count, wishes, places):
    if len(places) != count:
        return False
    return all([places[other] - places[one] >= least for one, other, least, weight in wishes])


def worth(wishes, places):
    return sum([weight * (places[other] - places[one]) for one, other, least, weight in wishes])


def weights_of(wishes):
    return [weight for one, other, least, weight in wishes]


def left_at_points(count, wishes, amounts):
    """Tells for each point what comes less what goes, by an amount for each wish."""
    left = [0] * count
    for wish, amount in zip(wishes, amounts):
        left[wish[1]] += amount
        left[wish[0]] -= amount
    return left


def bound(count, wishes, flow):
    if len(flow) != len(wishes) or any([amount < 0 for amount in flow]):
        raise NoFlow()
    if left_at_points(count, wishes, flow) != left_at_points(count, wishes, weights_of(wishes)):
        raise NoFlow()
    return sum([amount * wish[2] for wish, amount in zip(wishes, flow)])


def is_ring(wishes, ring):
    # Asked ahead, as Python would take a number below 0 from the list's end.
    if len(ring) == 0 or any([number < 0 or number >= len(wishes) for number in ring]):
        return False
    ones = [wishes[number][0] for number in ring]
    others = [wishes[number][1] for number in ring]
    if others != ones[1:] + ones[:1] or len(set(ones)) != len(ones):
        return False
    return sum([wishes[number][2] for number in ring]) > 0
