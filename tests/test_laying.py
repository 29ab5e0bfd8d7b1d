import inspect
import itertools
import random
import unittest

from checks import faults, goes_round, keeps_all, parts, worth_of
from layerdraw import laying
from layerdraw.errors import Ring
from layerdraw.laying import laid

GREAT = 10 ** 9
EXAMPLE = [(0, 1, 1, 2), (1, 2, 1, 1), (0, 2, 3, 1)]


def wishes_around(chance, places, number, slack, weight):
    """So many wishes that the places keep, each with a slack and a weight up to the told ones."""
    wishes = []
    for time in range(number):
        one, other = chance.randrange(len(places)), chance.randrange(len(places))
        least = places[other] - places[one] - chance.randint(0, slack)
        wishes.append((one, other, least, chance.randint(0, weight)))
    return wishes


def random_wishes(chance, count, number, leasts, weight):
    """So many wishes, with leasts out of the told ones, which perhaps no places keep."""
    wishes = []
    for time in range(number):
        one, other = chance.randrange(count), chance.randrange(count)
        wishes.append((one, other, chance.choice(leasts), chance.randint(0, weight)))
    return wishes


def hard_wishes(pairs):
    """Wishes for which sending a flow by nearest ways, all at once, takes twice as long for each pair more.

    The costs are those of Zadeh's bad networks; the weights bring from the givers to the takers what these ask for.
    """
    gives = [1, 3] + [2 ** k + 2 ** k // 4 for k in range(2, pairs)]
    takes = [2, 2] + gives[2:]
    wishes = []
    for one, other in itertools.product(range(pairs), range(pairs)):
        weight = min(gives[one], takes[other])
        gives[one] -= weight
        takes[other] -= weight
        cost = 2 ** (max(one, other) + 1) - 1 if one != other else 2 ** (pairs + 4)
        wishes.append((one, pairs + other, -cost, weight))
    return wishes


class LayingCase(unittest.TestCase):
    def look_at(self, count, wishes):
        """Checks all that is told of the wishes, point by point and wish by wish, and tells the worth, None for a ring."""
        kept = list(wishes)
        try:
            answer = laid(count, wishes)
        except Ring as refusal:
            self.assertIs(type(refusal.ring), list)
            self.assertTrue(goes_round(wishes, refusal.ring), refusal.ring)
            worth = None
        else:
            worth = self.look_at_answer(count, wishes, answer)
        self.assertEqual(wishes, kept)
        return worth

    def look_at_answer(self, count, wishes, answer):
        self.assertIs(type(answer), tuple)
        places, flow = answer
        self.assertEqual((type(places), type(flow)), (list, list))
        self.assertEqual(faults(count, wishes, places, flow), [])
        return worth_of(wishes, places)


class SmallTest(LayingCase):
    def test_the_names_and_arguments(self):
        self.assertEqual(str(inspect.signature(laying.laid)), "(count, wishes)")

    def test_the_example(self):
        self.assertEqual(self.look_at(3, EXAMPLE), 7)
        self.assertEqual(laid(3, EXAMPLE), ([0, 1, 3], [1, 0, 2]))

    def test_no_point(self):
        self.assertEqual(laid(0, []), ([], []))

    def test_no_wish(self):
        self.assertEqual(laid(1, []), ([0], []))
        self.assertEqual(laid(3, []), ([0, 0, 0], []))
        self.assertEqual(laid(80, []), ([0] * 80, []))

    def test_a_wish_from_a_point_to_itself(self):
        for weight in (0, 1, GREAT):
            for least in (0, -1, -GREAT):
                self.assertEqual(self.look_at(1, [(0, 0, least, weight)]), 0)
                self.assertEqual(self.look_at(2, [(0, 1, 3, 2), (1, 1, least, weight)]), 6)
            for least in (1, GREAT):
                with self.assertRaises(Ring) as taken:
                    laid(1, [(0, 0, least, weight)])
                self.assertEqual(taken.exception.ring, [0])
                with self.assertRaises(Ring) as taken:
                    laid(3, [(0, 1, 3, 2), (1, 2, 1, 1), (1, 1, least, weight)])
                self.assertEqual(taken.exception.ring, [2])

    def test_one_wish(self):
        for least in (-GREAT, -1, 0, 1, GREAT):
            for weight in (1, GREAT):
                self.assertEqual(self.look_at(2, [(0, 1, least, weight)]), least * weight)
                self.assertEqual(self.look_at(2, [(1, 0, least, weight)]), least * weight)
            self.assertEqual(self.look_at(2, [(0, 1, least, 0)]), 0)

    def test_several_parts(self):
        self.assertEqual(self.look_at(7, [(5, 1, 4, 1), (2, 3, -6, 2), (3, 6, 1, 0)]), 4 - 12)
        self.assertEqual(self.look_at(6, [(0, 1, 3, 0), (2, 3, -3, 0), (4, 5, 0, 0)]), 0)

    def test_a_wish_without_weight_joins_a_part(self):
        places = laid(3, [(0, 1, 5, 1), (2, 0, 7, 0)])[0]
        self.assertGreaterEqual(places[0], 7)
        self.assertEqual((places[2], places[1] - places[0]), (0, 5))

    def test_parallel_wishes(self):
        self.assertEqual(self.look_at(2, [(0, 1, 1, 1), (0, 1, 4, 2), (0, 1, 4, 0), (0, 1, -9, 3)]), 24)

    def test_wishes_both_ways_that_leave_no_room(self):
        self.assertEqual(self.look_at(2, [(0, 1, 4, 1), (1, 0, -4, 5)]), -16)
        self.assertEqual(self.look_at(3, [(0, 1, 4, 0), (1, 2, 1, 0), (2, 0, -5, 3), (0, 2, 1, 1)]), -10)

    def test_a_wish_upward_pulls(self):
        self.assertEqual(self.look_at(2, [(0, 1, 1, 1), (1, 0, -6, 5)]), -24)

    def test_weights_of_nought_alone(self):
        self.assertEqual(self.look_at(4, [(0, 1, 3, 0), (1, 2, -5, 0), (3, 1, 9, 0), (2, 3, -4, 0)]), 0)


class TriedOutTest(LayingCase):
    def least_by_trying(self, count, wishes, greatest):
        """The least worth of all places up to a greatest one that fit, None where none do."""
        tried = itertools.product(range(greatest + 1), repeat=count)
        return min((worth_of(wishes, places) for places in tried if keeps_all(wishes, places)), default=None)

    def test_against_all_small_places(self):
        # Of the places that are worth the least there are some whose points hang on one another by wishes kept just;
        # so no place is greater than the greatest leasts, one for each point but one.
        chance = random.Random(31)
        rings = 0
        for time in range(700):
            count = chance.randint(1, 4)
            wishes = random_wishes(chance, count, chance.randint(0, 6), (-2, -2, -1, -1, 0, 0, 1, 2), 3)
            worth = self.look_at(count, wishes)
            rings += worth is None
            self.assertEqual(worth, self.least_by_trying(count, wishes, 2 * (count - 1)))
        self.assertGreater(rings, 100)
        self.assertLess(rings, 600)

    def test_against_all_small_places_of_wishes_that_can_be_kept(self):
        chance = random.Random(32)
        for time in range(150):
            count = chance.randint(2, 4)
            wishes = wishes_around(chance, [chance.randint(0, 1) for point in range(count)], 7, 1, 5)
            worth = self.look_at(count, wishes)
            self.assertIsNotNone(worth)
            self.assertEqual(worth, self.least_by_trying(count, wishes, 2 * (count - 1)))


class RingTest(LayingCase):
    def test_rings_of_each_length(self):
        for count in range(2, 81):
            wishes = [(point, (point + 1) % count, 0, 1) for point in range(count)]
            self.assertEqual(self.look_at(count, wishes), 0)
            wishes[count // 2] = (count // 2, (count // 2 + 1) % count, 1, 0)
            self.assertIsNone(self.look_at(count, wishes))
            wishes.reverse()
            self.assertIsNone(self.look_at(count, wishes))

    def test_leasts_that_come_to_just_more_than_nought(self):
        wishes = [(0, 1, GREAT, 1), (1, 2, GREAT, 1), (2, 3, -GREAT, 1), (3, 0, -GREAT, 1)]
        self.assertIsNotNone(self.look_at(4, wishes))
        wishes[3] = (3, 0, 1 - GREAT, 1)
        self.assertIsNone(self.look_at(4, wishes))
        wishes[3] = (3, 0, -1 - GREAT, 1)
        self.assertIsNotNone(self.look_at(4, wishes))

    def test_a_ring_behind_a_long_way(self):
        way = [(point, point + 1, 10, 1) for point in range(77)]
        for rest in ([(77, 78, 1, 0), (78, 77, 0, 0), (78, 79, 5, 1)], [(78, 79, 1, 0), (79, 78, 0, 0), (79, 0, 5, 1)]):
            self.assertIsNone(self.look_at(80, way + rest))
            self.assertIsNone(self.look_at(80, rest + way[::-1]))

    def test_a_ring_in_another_part(self):
        self.assertIsNone(self.look_at(5, [(0, 1, 1, 1), (3, 4, 2, 1), (4, 3, -1, 1)]))

    def test_many_rings(self):
        chance = random.Random(33)
        found = 0
        for time in range(60):
            count = chance.randint(2, 80)
            wishes = random_wishes(chance, count, 300, range(-GREAT, GREAT // 3), 9)
            found += self.look_at(count, wishes) is None
        self.assertGreater(found, 30)

    def test_a_ring_of_small_leasts_among_great_ones(self):
        chance = random.Random(34)
        for time in range(20):
            count = chance.randint(5, 80)
            places = [chance.randint(0, GREAT // 2) for point in range(count)]
            wishes = wishes_around(chance, places, 290, GREAT // 4, 9)
            self.assertIsNotNone(self.look_at(count, wishes))
            round_trip = chance.sample(range(count), 5)
            for one, other in zip(round_trip, round_trip[1:] + round_trip[:1]):
                wishes.append((one, other, places[other] - places[one], 1))
            self.assertIsNotNone(self.look_at(count, wishes))
            one, other, least, weight = wishes[-1]
            wishes[-1] = (one, other, least + 1, weight)
            self.assertIsNone(self.look_at(count, wishes))


class GreatTest(LayingCase):
    def test_the_greatest_numbers(self):
        way = [(point, point + 1, GREAT, GREAT) for point in range(79)]
        self.assertEqual(self.look_at(80, way), 79 * 10 ** 18)
        self.assertEqual(laid(80, way)[0], [point * GREAT for point in range(80)])
        self.assertEqual(self.look_at(80, [(one, other, -GREAT, GREAT) for one, other, least, weight in way]),
                         -79 * 10 ** 18)

    def test_eighty_points_and_three_hundred_wishes(self):
        chance = random.Random(35)
        for slack in (0, 1, 100, GREAT // 2):
            for weight in (0, 1, 15, 16, 17, 10 ** 6, GREAT):
                places = [chance.randint(0, GREAT // 2) for point in range(80)]
                self.assertIsNotNone(self.look_at(80, wishes_around(chance, places, 300, slack, weight)))

    def test_downward_wishes_alone(self):
        chance = random.Random(36)
        for time in range(5):
            ends = [sorted(chance.sample(range(80), 2)) for number in range(300)]
            wishes = [(one, other, chance.randint(-GREAT, GREAT), chance.randint(0, GREAT)) for one, other in ends]
            self.assertIsNotNone(self.look_at(80, wishes))

    def test_givers_and_takers(self):
        chance = random.Random(37)
        for time in range(5):
            wishes = [
                (chance.randrange(40), chance.randrange(40, 80), -chance.randint(0, GREAT), 10 ** chance.randint(0, 9))
                for number in range(300)
            ]
            self.assertIsNotNone(self.look_at(80, wishes))

    def test_middles(self):
        # The form of places sideways: rows with gaps, and a helper for each line.
        chance = random.Random(38)
        for time in range(5):
            wishes = [(mark, mark + 1, chance.randint(0, 150), 0) for mark in range(39) if mark % 5 < 4]
            for helper in range(40, 80):
                weight = chance.randint(1, 10 ** 7)
                wishes += [(helper, mark, 0, weight) for mark in chance.sample(range(40), 2)]
            self.assertIsNotNone(self.look_at(80, wishes))

    def test_several_parts(self):
        # The parts' points stand mixed, each third one in the same part.
        chance = random.Random(41)
        for time in range(20):
            wishes = []
            for first in range(3):
                places = [chance.randint(0, 100) for point in range(9)]
                for one, other, least, weight in wishes_around(chance, places, 30, 40, GREAT):
                    wishes.append((3 * one + first, 3 * other + first, least, weight))
            chance.shuffle(wishes)
            self.assertGreaterEqual(len(parts(27, wishes)), 3)
            self.assertIsNotNone(self.look_at(27, wishes))

    def test_hard_wishes(self):
        for pairs in (2, 5, 10, 17):
            self.assertIsNotNone(self.look_at(2 * pairs, hard_wishes(pairs)))

    def test_somewhat_beyond_the_bounds(self):
        chance = random.Random(39)
        places = [chance.randint(0, 2 * GREAT) for point in range(90)]
        self.assertIsNotNone(self.look_at(90, wishes_around(chance, places, 330, GREAT, 2 * GREAT)))


class AskersOwnTest(LayingCase):
    def test_the_same_asked_twice(self):
        chance = random.Random(40)
        for time in range(20):
            wishes = wishes_around(chance, [chance.randint(0, 9) for point in range(12)], 30, 3, 5)
            self.assertEqual(laid(12, wishes), laid(12, list(wishes)))

    def test_lists_told_are_the_askers_own(self):
        first = laid(3, EXAMPLE)
        first[0].append(7)
        first[1].clear()
        self.assertEqual(laid(3, EXAMPLE), ([0, 1, 3], [1, 0, 2]))

    def test_a_ring_told_is_the_askers_own(self):
        wishes = [(0, 1, 1, 0), (1, 0, 0, 0)]
        told = []
        for time in range(2):
            with self.assertRaises(Ring) as taken:
                laid(2, wishes)
            told.append(list(taken.exception.ring))
            taken.exception.ring.clear()
        self.assertEqual(told[0], told[1])
        self.assertTrue(goes_round(wishes, told[0]))

    def test_a_list_handed_in_and_changed_behind_the_call(self):
        wishes = list(EXAMPLE)
        first = laid(3, wishes)
        wishes[2] = (0, 2, 5, 1)
        wishes.append((2, 0, -5, 0))
        self.assertEqual(first, ([0, 1, 3], [1, 0, 2]))
        self.assertEqual(laid(3, EXAMPLE), first)
        self.assertEqual(self.look_at(3, wishes), 11)


if __name__ == "__main__":
    unittest.main()
