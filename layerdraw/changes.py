"""Changes: levels of a net anew, near old levels, and the wishes that show that they move the least."""

from layerdraw.laying import laid
from layerdraw.levels import levelled, wishes_of


def moves_of(net, old, levels):
    return sum([abs(levels[name] - old[name]) for name in net.points() if name in old])


def wishes_again(net, old, flow):
    points = net.points()
    net_wishes = wishes_of(net)
    ground = len(points)
    wishes = [(one, other, least, 0) for one, other, least, weight in net_wishes]
    # Kept both ways round a wish is kept just, as it must be for the least length where flow runs.
    wishes.extend([(wish[1], wish[0], 0 - wish[2], 0) for wish, amount in zip(net_wishes, flow) if amount > 0])
    wishes.extend([(ground, point, 0, 0) for point in range(ground)])
    helped = [point for point, name in enumerate(points) if name in old]
    for helper, point in enumerate(helped, start=ground + 1):
        # A helper stands best at the upper one of its point and the old level; so both wishes come to what the point
        # moves, less the old level.
        wishes.append((helper, point, 0, 1))
        wishes.append((helper, ground, 0 - old[points[point]], 1))
    return (ground + 1 + len(helped), wishes)


def again(net, old):
    points = net.points()
    flow = levelled(net)[1]
    question = wishes_again(net, old, flow)
    answer = laid(question[0], question[1])
    ground = answer[0][len(points)]
    levels = dict([(name, place - ground) for name, place in zip(points, answer[0])])
    return (levels, flow, moves_of(net, old, levels), answer[1])
