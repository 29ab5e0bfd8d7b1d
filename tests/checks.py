"""What several tests use: all that a net tells, and a look of their own, without the program, at what is told."""


def told(net):
    points = net.points()
    halves = [net.half_of(name) for name in points]
    return (points, halves, net.arrows(), net.sames(), net.mosts())


def keeps_all(wishes, places):
    return all(places[other] - places[one] >= least for one, other, least, weight in wishes)


def worth_of(wishes, places):
    total = 0
    for one, other, least, weight in wishes:
        total += weight * (places[other] - places[one])
    return total


def bound_of(wishes, flow):
    return sum(amount * wish[2] for amount, wish in zip(flow, wishes, strict=True))


def adds_up(count, wishes, flow):
    """True where the list is a flow, looked at point by point."""
    if len(flow) != len(wishes) or min(flow, default=0) < 0:
        return False
    for point in range(count):
        by_flow = by_weights = 0
        for amount, (one, other, least, weight) in zip(flow, wishes):
            if other == point:
                by_flow += amount
                by_weights += weight
            if one == point:
                by_flow -= amount
                by_weights -= weight
        if by_flow != by_weights:
            return False
    return True


def goes_round(wishes, ring):
    """True where the list is a ring of the wishes, looked at wish by wish."""
    if not ring or not all(number in range(len(wishes)) for number in ring):
        return False
    rows = [wishes[number] for number in ring]
    for k, row in enumerate(rows):
        if row[1] != rows[(k + 1) % len(rows)][0]:
            return False
    return len({row[0] for row in rows}) == len(rows) and sum(row[2] for row in rows) > 0


def parts(count, wishes):
    """The parts, each a list of points: walked from point to point along the wishes, both ways."""
    found = []
    for start in range(count):
        if any(start in part for part in found):
            continue
        part = [start]
        for point in part:
            for one, other, least, weight in wishes:
                for near, far in ((one, other), (other, one)):
                    if near == point and far not in part:
                        part.append(far)
        found.append(part)
    return found


def faults(count, wishes, places, flow):
    """What is wrong with places and a flow that are told as the least ones: nothing, where they are."""
    found = []
    if (len(places), len(flow)) != (count, len(wishes)):
        return ["not as many as there are points and wishes"]
    if not all(type(number) is int for number in places + flow):
        found.append("a number of another kind")
    if not keeps_all(wishes, places):
        found.append("a wish that is not kept")
    if any(min(places[point] for point in part) != 0 for part in parts(count, wishes)):
        found.append("a part that is not from 0 on")
    if not adds_up(count, wishes, flow):
        found.append("no flow")
    if bound_of(wishes, flow) != worth_of(wishes, places):
        found.append("a bound that is not the worth")
    return found


def reached(pairs, start):
    """All points that the pairs lead to from the start; the start among them only by a ring."""
    found = set()
    new = {start}
    while new:
        new = {other for one, other in pairs if one in new} - found
        found |= new
    return found


def turned_by_the_words(net):
    """[2.2], arrow by arrow."""
    kept, others = [], []
    for number, one, other, span, weight in net.arrows():
        if one in reached(kept, other):
            others.append(number)
        else:
            kept.append((one, other))
    return others


def wishes_by_the_words(net):
    """[5.1], one by one."""
    points = net.points()
    about = turned_by_the_words(net)
    wishes = []
    for number, one, other, span, weight in net.arrows():
        start, end = (other, one) if number in about else (one, other)
        wishes.append((points.index(start), points.index(end), span, weight))
    for one, other in net.sames():
        for start, end in ((one, other), (other, one)):
            wishes.append((points.index(start), points.index(end), 0, 0))
    for one, other, number in net.mosts():
        wishes.append((points.index(other), points.index(one), -number, 0))
    return wishes
