import inspect
import random
import unittest

from checks import adds_up, bound_of, goes_round, keeps_all, worth_of
from layerdraw import papers
from layerdraw.errors import NoFlow
from layerdraw.papers import bound, fits, is_ring, worth

GREAT = 10 ** 9
EXAMPLE = [(0, 1, 1, 2), (1, 2, 1, 1), (0, 2, 3, 1)]


class FitsTest(unittest.TestCase):
    def test_the_names_and_arguments(self):
        for name, parameters in (("fits", "(count, wishes, places)"), ("worth", "(wishes, places)"),
                                 ("bound", "(count, wishes, flow)"), ("is_ring", "(wishes, ring)")):
            self.assertEqual(str(inspect.signature(getattr(papers, name))), parameters)

    def test_the_example(self):
        self.assertIs(fits(3, EXAMPLE, [0, 1, 3]), True)
        self.assertIs(fits(3, EXAMPLE, [0, 2, 3]), True)
        self.assertIs(fits(3, EXAMPLE, [-5, -4, -2]), True)

    def test_each_wish_counts(self):
        self.assertIs(fits(3, EXAMPLE, [0, 0, 3]), False)
        self.assertIs(fits(3, EXAMPLE, [0, 3, 3]), False)
        self.assertIs(fits(3, EXAMPLE, [0, 1, 2]), False)

    def test_too_few_and_too_many_places(self):
        for places in ([], [0], [0, 1], [0, 1, 3, 4], [0, 1, 3, 0, 0]):
            self.assertIs(fits(3, EXAMPLE, places), False)
        self.assertIs(fits(2, [], [0]), False)
        self.assertIs(fits(0, [], [0]), False)
        self.assertIs(fits(2, [], [0, 0, 0]), False)

    def test_nothing_to_keep(self):
        self.assertIs(fits(0, [], []), True)
        self.assertIs(fits(2, [], [7, -7]), True)

    def test_a_wish_from_a_point_to_itself(self):
        self.assertIs(fits(1, [(0, 0, 0, 4)], [3]), True)
        self.assertIs(fits(1, [(0, 0, -1, 4)], [3]), True)
        self.assertIs(fits(1, [(0, 0, 1, 4)], [3]), False)

    def test_the_edge_of_a_least(self):
        for least in (-GREAT, -1, 0, 1, GREAT):
            self.assertIs(fits(2, [(0, 1, least, 0)], [5, 5 + least]), True)
            self.assertIs(fits(2, [(0, 1, least, 0)], [5, 4 + least]), False)

    def test_worth(self):
        self.assertEqual(worth(EXAMPLE, [0, 1, 3]), 7)
        self.assertEqual(worth(EXAMPLE, [0, 2, 3]), 8)
        self.assertEqual(worth(EXAMPLE, [0, 0, 0]), 0)
        self.assertEqual(worth(EXAMPLE, [3, 1, 0]), -8)
        self.assertEqual(worth([], []), 0)
        self.assertEqual(worth([], [1, 2]), 0)
        self.assertEqual(worth([(1, 1, 0, 9)], [4, 5]), 0)
        self.assertEqual(worth([(0, 1, 0, GREAT)], [-GREAT, GREAT]), 2 * 10 ** 18)


class BoundTest(unittest.TestCase):
    def refused(self, count, wishes, flow):
        kept = (list(wishes), list(flow))
        with self.assertRaises(NoFlow) as taken:
            bound(count, wishes, flow)
        self.assertIs(type(taken.exception), NoFlow)
        self.assertEqual((wishes, flow), kept)

    def test_the_example(self):
        self.assertEqual(bound(3, EXAMPLE, [1, 0, 2]), 7)

    def test_the_weights_are_a_flow(self):
        self.assertEqual(bound(3, EXAMPLE, [2, 1, 1]), 6)

    def test_nothing(self):
        self.assertEqual(bound(0, [], []), 0)
        self.assertEqual(bound(3, [], []), 0)

    def test_another_count(self):
        for flow in ([], [1, 0], [1, 0, 2, 0], [2, 1, 1, 1]):
            self.refused(3, EXAMPLE, flow)
        self.refused(0, [], [0])
        self.refused(1, [(0, 0, 0, 3)], [])
        self.refused(1, [(0, 0, 0, 3)], [3, 0])

    def test_a_number_below_nought(self):
        # It comes to what the weights do at each point.
        self.refused(3, EXAMPLE, [0, -1, 3])
        self.refused(1, [(0, 0, 0, 3)], [-1])
        self.refused(2, [(0, 1, 1, 1), (0, 1, 1, 1)], [3, -1])

    def test_a_point_at_which_it_does_not_come_right(self):
        self.refused(3, EXAMPLE, [0, 0, 0])
        self.refused(3, EXAMPLE, [1, 0, 1])
        self.refused(3, EXAMPLE, [2, 0, 2])
        self.refused(3, EXAMPLE, [1, 1, 2])
        self.refused(2, [(0, 1, 5, 0)], [1])
        self.refused(2, [(0, 1, 5, 2)], [1])
        self.refused(4, [(0, 1, 5, 1), (2, 3, 5, 1)], [2, 0])

    def test_a_wish_from_a_point_to_itself(self):
        for amount in (0, 1, 3, GREAT):
            self.assertEqual(bound(1, [(0, 0, -2, 3)], [amount]), -2 * amount)

    def test_round_and_round(self):
        wishes = [(0, 1, -4, 1), (1, 0, 3, 2)]
        self.assertEqual(bound(2, wishes, [0, 1]), 3)
        self.assertEqual(bound(2, wishes, [7, 8]), -4)
        self.refused(2, wishes, [1, 1])

    def test_great_numbers(self):
        self.assertEqual(bound(2, [(0, 1, GREAT, GREAT), (0, 1, -GREAT, GREAT)], [2 * GREAT, 0]), 2 * 10 ** 18)

    def test_every_small_list(self):
        wishes = [(0, 1, 2, 1), (1, 0, -3, 0), (1, 1, -1, 2), (0, 1, 1, 0)]
        found = 0
        for code in range(5 ** 4):
            flow = [code // 5 ** k % 5 - 1 for k in range(4)]
            if adds_up(2, wishes, flow):
                found += 1
                self.assertEqual(bound(2, wishes, flow), bound_of(wishes, flow))
            else:
                self.refused(2, wishes, flow)
        self.assertGreater(found, 10)

    def test_places_that_fit_are_worth_no_less(self):
        chance = random.Random(43)
        pairs = 0
        for time in range(300):
            places = [chance.randint(0, 6) for point in range(4)]
            wishes = []
            for number in range(5):
                one, other = chance.randrange(4), chance.randrange(4)
                least = places[other] - places[one] - chance.randint(0, 2)
                wishes.append((one, other, least, chance.randint(0, 2)))
            self.assertTrue(fits(4, wishes, places))
            for code in range(3 ** 5):
                flow = [code // 3 ** k % 3 for k in range(5)]
                if adds_up(4, wishes, flow):
                    pairs += 1
                    self.assertLessEqual(bound(4, wishes, flow), worth(wishes, places))
                    self.assertEqual(worth(wishes, places), worth_of(wishes, places))
        self.assertGreater(pairs, 1000)


class RingTest(unittest.TestCase):
    WISHES = [(0, 1, 2, 1), (1, 2, -1, 0), (2, 0, 0, 5), (1, 0, -2, 0), (2, 0, -1, 0), (1, 1, 1, 0), (2, 2, 0, 0),
              (1, 0, -1, 7)]

    def test_rings(self):
        for ring in ([0, 1, 2], [1, 2, 0], [2, 0, 1], [0, 7], [7, 0], [5]):
            self.assertIs(is_ring(self.WISHES, ring), True, ring)

    def test_an_empty_list(self):
        self.assertIs(is_ring(self.WISHES, []), False)
        self.assertIs(is_ring([], []), False)

    def test_numbers_of_no_wish(self):
        for ring in ([8], [-3], [-1, 0], [0, -1], [0, 1, -6], [0, 8], [8, 0], [100], [0, 1, 2, 8], [-8, 7]):
            self.assertIs(is_ring(self.WISHES, ring), False, ring)
        self.assertIs(is_ring([], [0]), False)

    def test_one_point_twice_as_a_one(self):
        for ring in ([0, 7, 0, 7], [0, 5, 7], [5, 5], [0, 1, 2, 0, 7], [5, 1, 2, 0], [0, 1, 2, 0, 1, 2]):
            self.assertIs(is_ring(self.WISHES, ring), False, ring)

    def test_leasts_that_come_to_nought_or_less(self):
        for ring in ([0, 3], [3, 0], [0, 1, 4], [6]):
            self.assertIs(is_ring(self.WISHES, ring), False, ring)
        self.assertIs(is_ring([(0, 1, GREAT, 0), (1, 0, -GREAT, 0)], [0, 1]), False)
        self.assertIs(is_ring([(0, 1, GREAT, 0), (1, 0, 1 - GREAT, 0)], [0, 1]), True)
        self.assertIs(is_ring([(0, 1, GREAT, 0), (1, 0, -1 - GREAT, 0)], [0, 1]), False)

    def test_not_end_to_end(self):
        for ring in ([0], [0, 1], [0, 2], [0, 2, 1], [1, 7], [2, 1, 0], [0, 1, 5]):
            self.assertIs(is_ring(self.WISHES, ring), False, ring)
        self.assertIs(is_ring([(0, 1, 5, 0), (1, 2, 5, 0)], [0, 1]), False)
        self.assertIs(is_ring([(0, 0, 5, 0), (1, 1, 5, 0)], [0, 1]), False)

    def test_every_small_list(self):
        for length in (1, 2, 3):
            for code in range(11 ** length):
                ring = [code // 11 ** k % 11 - 1 for k in range(length)]
                self.assertIs(is_ring(self.WISHES, ring), goes_round(self.WISHES, ring), ring)


class AskersOwnTest(unittest.TestCase):
    def test_nothing_handed_in_is_changed(self):
        wishes, places, flow, ring = list(EXAMPLE), [0, 1, 3], [1, 0, 2], [0, 1]
        for time in range(2):
            self.assertEqual(
                (fits(3, wishes, places), worth(wishes, places), bound(3, wishes, flow), is_ring(wishes, ring)),
                (True, 7, 7, False),
            )
        self.assertEqual((wishes, places, flow, ring), (EXAMPLE, [0, 1, 3], [1, 0, 2], [0, 1]))

    def test_what_is_handed_in_changed_behind_the_call(self):
        wishes, places = list(EXAMPLE), [0, 1, 3]
        self.assertIs(fits(3, wishes, places), keeps_all(wishes, places))
        places[2] = 2
        self.assertIs(fits(3, wishes, places), False)
        self.assertEqual(worth(wishes, places), 5)
        wishes.pop()
        self.assertIs(fits(3, wishes, places), True)
        self.assertEqual(worth(wishes, places), 3)


if __name__ == "__main__":
    unittest.main()
