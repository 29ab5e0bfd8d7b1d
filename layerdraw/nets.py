"""Nets: points with names; arrows, sames and mosts between them."""

from layerdraw.errors import Alone, NoName, NoNumber, NoPoint, NoSuch, Taken, TooMany

SMALL_LETTERS = "abcdefghijklmnopqrstuvwxyz"
LONGEST_NAME = 8
WIDEST_HALF = 50
LONGEST_SPAN = 20
GREATEST_WEIGHT = 1000000
GREATEST_MOST = 99

MOST_POINTS = 20
MOST_ARROWS = 40
MOST_SAMES = 20
MOST_MOSTS = 20


def is_name(name):
    if not isinstance(name, str) or len(name) < 1 or len(name) > LONGEST_NAME:
        return False
    return all([sign in SMALL_LETTERS for sign in name])


def is_whole(number):
    # For Python a truth is an int, for the document it is no whole number.
    return isinstance(number, int) and not isinstance(number, bool)


def in_range(number, least, greatest):
    return is_whole(number) and number >= least and number <= greatest


class Net:
    def __init__(self):
        self.halves = {}
        self.arrows_by_number = {}
        # Kept apart from the count of arrows: no number is given twice.
        self.next_number = 0
        self.same_pairs = []
        self.most_bounds = []

    def put_point(self, name, half=0):
        if not is_name(name):
            raise NoName()
        if name in self.halves:
            raise Taken()
        if not in_range(half, 0, WIDEST_HALF):
            raise NoNumber()
        if len(self.halves) >= MOST_POINTS:
            raise TooMany()
        self.halves[name] = half

    def put_arrow(self, one, other, span=1, weight=1):
        self.need_two_points(one, other)
        if not in_range(span, 1, LONGEST_SPAN) or not in_range(weight, 1, GREATEST_WEIGHT):
            raise NoNumber()
        if len(self.arrows_by_number) >= MOST_ARROWS:
            raise TooMany()
        number = self.next_number
        self.arrows_by_number[number] = (one, other, span, weight)
        self.next_number = number + 1
        return number

    def put_same(self, one, other):
        self.need_two_points(one, other)
        if len(self.same_pairs) >= MOST_SAMES:
            raise TooMany()
        self.same_pairs.append((one, other))

    def put_most(self, one, other, number):
        self.need_two_points(one, other)
        if not in_range(number, 0, GREATEST_MOST):
            raise NoNumber()
        if len(self.most_bounds) >= MOST_MOSTS:
            raise TooMany()
        self.most_bounds.append((one, other, number))

    def take_arrow(self, number):
        # Asked first whether it is whole, as True would else be found as 1.
        if not is_whole(number) or number not in self.arrows_by_number:
            raise NoSuch(number)
        self.arrows_by_number.pop(number)

    def points(self):
        return list(self.halves)

    def half_of(self, name):
        self.need_point(name)
        return self.halves[name]

    def arrows(self):
        # Numbers only rise, so the dict's own order is that of the numbers.
        return [
            (number, arrow[0], arrow[1], arrow[2], arrow[3])
            for number, arrow in self.arrows_by_number.items()
        ]

    def sames(self):
        return [(one, other) for one, other in self.same_pairs]

    def mosts(self):
        return [(one, other, number) for one, other, number in self.most_bounds]

    def need_point(self, name):
        if name not in self.points():
            raise NoPoint(name)

    def need_two_points(self, one, other):
        self.need_point(one)
        self.need_point(other)
        if one == other:
            raise Alone()
