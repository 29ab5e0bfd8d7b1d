import inspect
import itertools
import random
import unittest

from checks import adds_up, bound_of, goes_round, keeps_all, told, wishes_by_the_words, worth_of
from layerdraw import changes
from layerdraw.changes import again, moves_of, wishes_again
from layerdraw.errors import Ring
from layerdraw.levels import keeps_net, length, levelled, rows_of
from layerdraw.nets import Net
from layerdraw.papers import bound, fits, worth
from made import LETTERS, net_of, random_net


def moves_by_the_words(net, old, levels):
    total = 0
    for name in net.points():
        if name in old:
            low, high = sorted((levels[name], old[name]))
            total += high - low
    return total


def again_by_the_words(net, old, flow):
    """[9.2], one by one."""
    points = net.points()
    ground = len(points)
    helped = [point for point in range(ground) if points[point] in old]
    wishes = [(one, other, least, 0) for one, other, least, weight in wishes_by_the_words(net)]
    for k in range(len(wishes)):
        if flow[k] > 0:
            wishes.append((wishes[k][1], wishes[k][0], -wishes[k][2], 0))
    for point in range(ground):
        wishes.append((ground, point, 0, 0))
    for k, point in enumerate(helped):
        wishes += [(ground + 1 + k, point, 0, 1), (ground + 1 + k, ground, -old[points[point]], 1)]
    return (ground + 1 + len(helped), wishes)


def sum_of_old(net, old):
    return sum(old[name] for name in net.points() if name in old)


def random_old(chance, net, greatest):
    """Old levels of all points, of some or of none, in a mixed order, with names that are no points among them."""
    names = net.points() + ["x", "nobody"]
    return {name: chance.randint(0, greatest) for name in chance.sample(names, chance.randint(0, len(names)))}


class ChangesCase(unittest.TestCase):
    def look_at(self, net, old):
        """Checks all that is told of a change, and tells the moves; None for a ring."""
        ahead = (told(net), dict(old))
        wishes = wishes_by_the_words(net)
        try:
            answer = again(net, old)
        except Ring as refusal:
            self.assertIs(type(refusal.ring), list)
            self.assertTrue(goes_round(wishes, refusal.ring), refusal.ring)
            found = None
        else:
            self.assertEqual((type(answer), [type(part) for part in answer]), (tuple, [dict, list, int, list]))
            self.look_at_levels(net, wishes, *answer[:2])
            self.look_at_moves(net, old, *answer)
            found = answer[2]
        self.assertEqual((told(net), old), ahead)
        return found

    def look_at_levels(self, net, wishes, levels, flow):
        self.assertEqual(sorted(levels), sorted(net.points()))
        places = [levels[name] for name in net.points()]
        self.assertTrue(all(type(level) is int and level >= 0 for level in places))
        self.assertTrue(keeps_all(wishes, places))
        self.assertTrue(adds_up(len(places), wishes, flow))
        self.assertEqual(bound_of(wishes, flow), worth_of(wishes, places))
        self.assertIs(keeps_net(net, levels), True)
        self.assertEqual(length(net, levels), length(net, levelled(net)[0]))
        self.assertEqual(bound(len(places), wishes, flow), length(net, levels))

    def look_at_moves(self, net, old, levels, flow, moves, paper):
        self.assertEqual(moves, moves_by_the_words(net, old, levels))
        self.assertEqual(moves_of(net, old, levels), moves)
        count, wishes = again_by_the_words(net, old, flow)
        self.assertEqual(wishes_again(net, old, flow), (count, wishes))
        self.assertTrue(all(type(amount) is int for amount in paper))
        self.assertTrue(adds_up(count, wishes, paper))
        self.assertEqual(bound_of(wishes, paper), moves - sum_of_old(net, old))
        self.assertEqual(bound(count, wishes, paper), moves - sum_of_old(net, old))

    def least_moves(self, net, old, room):
        """The least length and then the least moves of all levels from 0 to the room, tried out; None without any."""
        points = net.points()
        wishes = wishes_by_the_words(net)
        found = []
        for places in itertools.product(range(room + 1), repeat=len(points)):
            if keeps_all(wishes, places):
                levels = dict(zip(points, places))
                found.append((worth_of(wishes, places), moves_by_the_words(net, old, levels)))
        return min(found, default=None)


class AgainTest(ChangesCase):
    def test_the_names_and_arguments(self):
        for name, parameters in (("again", "(net, old)"), ("wishes_again", "(net, old, flow)"),
                                 ("moves_of", "(net, old, levels)")):
            self.assertEqual(str(inspect.signature(getattr(changes, name))), parameters)

    def test_a_net_without_points(self):
        self.assertEqual(again(Net(), {}), ({}, [], 0, []))
        self.assertEqual(again(Net(), {"a": 5, "b": 0}), ({}, [], 0, []))

    def test_one_point(self):
        net = net_of("point a")
        for level in (0, 1, 19, 20, 10 ** 6):
            self.assertEqual(again(net, {"a": level})[0::2], ({"a": level}, 0))
            self.assertEqual(self.look_at(net, {"a": level, "b": 7}), 0)
        self.assertEqual(self.look_at(net, {}), 0)

    def test_nothing_has_changed(self):
        net = net_of("point a", "point b", "point c", "arrow a b 3 2", "arrow b c 2 5", "arrow a c 9")
        old = levelled(net)[0]
        self.assertEqual(again(net, old)[0::2], (old, 0))
        later = {name: level + 4 for name, level in old.items()}
        self.assertEqual(again(net, later)[0::2], (later, 0))
        self.assertEqual(self.look_at(net, later), 0)

    def test_the_least_level_need_not_be_0(self):
        net = net_of("point a", "point b", "arrow a b 2")
        levels = again(net, {"a": 3, "b": 5})[0]
        self.assertEqual(levels, {"a": 3, "b": 5})
        rows = rows_of(net, levels)[0]
        self.assertEqual([len(row) for row in rows], [0, 0, 0, 1, 1, 1])
        self.assertEqual(again(net, {"b": 9})[0], {"a": 7, "b": 9})

    def test_no_level_is_below_0(self):
        net = net_of("point a", "point b", "arrow a b 5")
        self.assertEqual(again(net, {"b": 2})[0::2], ({"a": 0, "b": 5}, 3))
        self.assertEqual(self.look_at(net, {"b": 0, "a": 0}), 5)
        self.assertEqual(self.look_at(net, {"b": 4}), 1)

    def test_old_levels_somewhat_beyond(self):
        # Not promised, but not refused either.
        net = net_of("point a", "point b", "arrow a b 5")
        self.assertEqual(again(net, {"a": -3})[0::2], ({"a": 0, "b": 5}, 3))
        self.assertEqual(self.look_at(net, {"a": -3, "b": 7}), 5)
        self.assertEqual(self.look_at(net, {"b": 10 ** 6 + 1}), 0)

    def test_the_length_comes_ahead_of_the_moves(self):
        net = net_of("point a", "point b", "arrow a b")
        for far in (2, 5, 10 ** 6):
            self.assertEqual(self.look_at(net, {"a": 0, "b": far}), far - 1)
            self.assertEqual(length(net, again(net, {"a": 0, "b": far})[0]), 1)
        # Twice the length would move nothing.
        net = net_of("point a", "point b", "point c", "arrow a b", "arrow b c", "arrow a c")
        self.assertEqual(self.look_at(net, {"a": 0, "b": 2, "c": 4}), 2)

    def test_among_levels_of_the_least_length_the_old_ones_choose(self):
        net = net_of("point a", "point b", "point c", "arrow a b", "arrow b c", "arrow a c 5")
        for level in (1, 2, 3, 4):
            self.assertEqual(again(net, {"a": 0, "b": level, "c": 5})[0::2], ({"a": 0, "b": level, "c": 5}, 0))
            self.assertEqual(again(net, {"a": 10, "b": 10 + level, "c": 15})[0]["b"], 10 + level)
        self.assertEqual(again(net, {"a": 0, "b": 0, "c": 5})[0::2], ({"a": 0, "b": 1, "c": 5}, 1))
        self.assertEqual(again(net, {"a": 0, "b": 9, "c": 5})[0::2], ({"a": 0, "b": 4, "c": 5}, 5))

    def test_most_points_stay(self):
        net = net_of("point a", "point b", "point c", "point d", "arrow a b", "arrow b c", "arrow c d")
        self.assertEqual(again(net, {"a": 7, "b": 3, "c": 4, "d": 5})[0::2], ({"a": 2, "b": 3, "c": 4, "d": 5}, 5))
        self.assertEqual(again(net, {"a": 2, "b": 3, "c": 4, "d": 0})[0::2], ({"a": 2, "b": 3, "c": 4, "d": 5}, 5))

    def test_each_part_moves_by_itself(self):
        net = net_of("point a", "point b", "point c", "point d", "arrow a b", "arrow d c")
        self.assertEqual(again(net, {"a": 4, "b": 5, "d": 0, "c": 1})[0::2], ({"a": 4, "b": 5, "c": 1, "d": 0}, 0))
        net.put_same("b", "c")
        self.assertEqual(self.look_at(net, {"a": 4, "b": 5, "d": 0, "c": 1}), 8)

    def test_old_levels_of_some_points(self):
        net = net_of("point a", "point b", "point c", "arrow a b 2", "arrow b c 3")
        for name, below in (("a", 0), ("b", 2), ("c", 5)):
            self.assertEqual(again(net, {name: 11})[0::2], ({"a": 11 - below, "b": 13 - below, "c": 16 - below}, 0))
            self.assertEqual(self.look_at(net, {name: 11}), 0)
        self.assertEqual(self.look_at(net, {"a": 3, "c": 9}), 1)

    def test_old_levels_of_none(self):
        net = net_of("point a", "point b", "point c", "arrow a b 2 3", "arrow c b 4", "most a c 1")
        self.assertEqual(self.look_at(net, {}), 0)
        self.assertEqual(self.look_at(net, {"x": 3, "nobody": 10 ** 6}), 0)
        self.assertEqual(again(net, {})[3], [0] * len(wishes_again(net, {}, again(net, {})[1])[1]))

    def test_names_that_are_no_points_do_not_count(self):
        net = net_of("point a", "point b", "arrow a b 2")
        for more in ({"x": 10 ** 6}, {"nobody": 0, "x": 5}):
            self.assertEqual(again(net, {**more, "a": 1, "b": 4}), again(net, {"a": 1, "b": 4}))

    def test_an_arrow_taken_out(self):
        net = net_of("point a", "point b", "point c", "arrow a b 4", "arrow b c", "arrow c a")
        old = levelled(net)[0]
        net.take_arrow(0)
        self.assertEqual(self.look_at(net, old), moves_by_the_words(net, old, again(net, old)[0]))
        self.assertEqual(length(net, again(net, old)[0]), 2)
        self.assertEqual(self.least_moves(net, old, 8), (2, again(net, old)[2]))

    def test_a_net_that_no_levels_keep(self):
        net = net_of("point a", "point b", "point c", "arrow a b 2", "arrow b c", "most a c 2")
        for old in ({}, {"a": 1}, {"a": 0, "b": 2, "c": 3}, {"x": 1}):
            with self.assertRaises(Ring) as taken:
                again(net, old)
            self.assertIs(type(taken.exception), Ring)
            self.assertEqual(sorted(taken.exception.ring), [0, 1, 2])
            self.assertIsNone(self.look_at(net, old))
        with self.assertRaises(Ring):
            again(net_of("point a", "point b", "same a b", "arrow b a"), {"a": 0, "b": 0})

    def test_against_all_small_levels(self):
        chance = random.Random(91)
        moved = refused = 0
        for time in range(250):
            net = random_net(chance, chance.randint(1, 3), 0, 0, 0, 1, 0)
            count = len(net.points())
            for step in range(chance.randint(1, 4) if count > 1 else 0):
                net.put_arrow(*chance.sample(net.points(), 2), chance.randint(1, 2), chance.randint(1, 3))
            if count > 1 and chance.random() < 0.4:
                net.put_most(*chance.sample(net.points(), 2), chance.randint(0, 3))
            if count > 2 and chance.random() < 0.2:
                net.put_same(*chance.sample(net.points(), 2))
            old = random_old(chance, net, 6)
            moves = self.look_at(net, old)
            # Some that move the least are at most the greatest old level and the longest way.
            least = self.least_moves(net, old, 12)
            if moves is None:
                self.assertIsNone(least)
                refused += 1
            else:
                self.assertEqual(least, (length(net, levelled(net)[0]), moves))
                moved += moves > 0
        self.assertGreater(moved, 40)
        self.assertGreater(refused, 2)

    def test_four_points_against_all_small_levels(self):
        chance = random.Random(92)
        for time in range(12):
            net = random_net(chance, 4, 4, 0, 1, 1, 3)
            old = random_old(chance, net, 5)
            moves = self.look_at(net, old)
            if moves is not None:
                self.assertEqual(self.least_moves(net, old, 9), (length(net, levelled(net)[0]), moves))

    def test_many_nets(self):
        chance = random.Random(93)
        shown = 0
        for time in range(100):
            arrows, mosts = chance.randint(0, 40), chance.choice((0, 0, 1, 4))
            net = random_net(chance, chance.randint(2, 20), arrows, chance.choice((0, 0, 1)), mosts, 4, 99)
            shown += self.look_at(net, random_old(chance, net, chance.choice((3, 20, 10 ** 6)))) is not None
        self.assertGreater(shown, 60)

    def test_many_changes_one_behind_another(self):
        chance = random.Random(94)
        for time in range(10):
            net = random_net(chance, 8, 10, 0, 0, 3, 0)
            levels = levelled(net)[0]
            for step in range(10):
                if net.arrows() and chance.random() < 0.4:
                    net.take_arrow(chance.choice(net.arrows())[0])
                elif len(net.points()) < 20 and chance.random() < 0.3:
                    net.put_point(LETTERS[len(net.points())])
                else:
                    net.put_arrow(*chance.sample(net.points(), 2), chance.randint(1, 3))
                if self.look_at(net, levels) is not None:
                    levels = again(net, levels)[0]

    def test_a_full_net(self):
        chance = random.Random(95)
        net = random_net(chance, 20, 40, 0, 0, 2, 0)
        levels = levelled(net)[0]
        # Such sames and mosts that these levels keep them.
        pairs = list(itertools.permutations(net.points(), 2))
        for time in range(20):
            net.put_same(*chance.choice([(one, other) for one, other in pairs if levels[one] == levels[other]]))
            net.put_most(*chance.choice([(one, other) for one, other in pairs if levels[other] - levels[one] < 4]), 3)
        self.assertEqual(len(wishes_by_the_words(net)), 40 + 40 + 20)
        self.assertIsNotNone(self.look_at(net, {name: chance.randint(0, 10 ** 6) for name in net.points()}))


class WishesAgainTest(unittest.TestCase):
    def test_nothing_to_wish(self):
        self.assertEqual(wishes_again(Net(), {}, []), (1, []))
        self.assertEqual(wishes_again(Net(), {"a": 3}, []), (1, []))

    def test_points_without_arrows(self):
        net = net_of("point b", "point a")
        self.assertEqual(wishes_again(net, {}, []), (3, [(2, 0, 0, 0), (2, 1, 0, 0)]))
        self.assertEqual(wishes_again(net, {"a": 7}, []),
                         (4, [(2, 0, 0, 0), (2, 1, 0, 0), (3, 1, 0, 1), (3, 2, -7, 1)]))
        self.assertEqual(wishes_again(net, {"a": 7, "x": 1, "b": 0}, []),
                         (5, [(2, 0, 0, 0), (2, 1, 0, 0), (3, 0, 0, 1), (3, 2, 0, 1), (4, 1, 0, 1), (4, 2, -7, 1)]))

    def test_one_by_one(self):
        net = net_of("point a", "point b", "point c", "arrow a b 2 5", "arrow b a 3 7", "arrow c a 4", "same b c",
                     "most a c 9")
        own = [(0, 1, 2, 0), (0, 1, 3, 0), (2, 0, 4, 0), (1, 2, 0, 0), (2, 1, 0, 0), (2, 0, -9, 0)]
        about = [(1, 0, -2, 0), (1, 0, -3, 0), (0, 2, -4, 0), (2, 1, 0, 0), (1, 2, 0, 0), (0, 2, 9, 0)]
        grounded = [(3, 0, 0, 0), (3, 1, 0, 0), (3, 2, 0, 0)]
        helped = [(4, 0, 0, 1), (4, 3, -12, 1), (5, 2, 0, 1), (5, 3, -(10 ** 6), 1)]
        old = {"c": 10 ** 6, "x": 4, "a": 12}
        self.assertEqual(wishes_again(net, old, [0] * 6), (6, own + grounded + helped))
        self.assertEqual(wishes_again(net, old, [1] * 6), (6, own + about + grounded + helped))
        self.assertEqual(wishes_again(net, old, [10 ** 9] * 6), (6, own + about + grounded + helped))
        for k in range(6):
            flow = [0] * k + [k + 1] + [0] * (5 - k)
            self.assertEqual(wishes_again(net, old, flow), (6, own + about[k:k + 1] + grounded + helped))
            self.assertEqual(wishes_again(net, {}, flow), (4, own + about[k:k + 1] + grounded))
        self.assertEqual(wishes_again(net, old, [2, 0, 0, 1, 0, 3]),
                         (6, own + [about[0], about[3], about[5]] + grounded + helped))

    def test_many_numbers(self):
        chance = random.Random(96)
        for time in range(100):
            net = random_net(chance, chance.randint(2, 20), chance.randint(0, 40), chance.randint(0, 20),
                             chance.randint(0, 20), 20, 99)
            old = random_old(chance, net, 10 ** 6)
            flow = [chance.choice((0, 0, 1, 5, 10 ** 9)) for wish in wishes_by_the_words(net)]
            answer = wishes_again(net, old, flow)
            self.assertEqual(answer, again_by_the_words(net, old, flow))
            self.assertEqual((type(answer), type(answer[0]), type(answer[1])), (tuple, int, list))
            self.assertTrue(all(type(wish) is tuple for wish in answer[1]))

    def test_a_flow_bounds_the_moves_of_any_levels_of_the_least_length(self):
        chance = random.Random(97)
        for time in range(40):
            net = random_net(chance, 6, 7, 0, 0, 3, 0)
            old = random_old(chance, net, 9)
            levels, flow, moves, paper = again(net, old)
            count, wishes = wishes_again(net, old, flow)
            top = chance.randint(0, 5)
            others = {name: level + top for name, level in levelled(net)[0].items()}
            ground = [0]
            helpers = [min(others[name], old[name]) for name in net.points() if name in old]
            places = [others[name] for name in net.points()] + ground + helpers
            self.assertIs(fits(count, wishes, places), True)
            self.assertEqual(worth(wishes, places), moves_of(net, old, others) - sum_of_old(net, old))
            self.assertGreaterEqual(moves_of(net, old, others), bound(count, wishes, paper) + sum_of_old(net, old))
            # Levels of a greater length keep not all of these wishes.
            low = max(net.points(), key=lambda name: others[name])
            if net.arrows():
                places[net.points().index(low)] += 1
                longer = {**others, low: others[low] + 1}
                self.assertIs(fits(count, wishes, places),
                              keeps_net(net, longer) and length(net, longer) == length(net, others))


class MovesTest(unittest.TestCase):
    def test_no_points_and_no_old_levels(self):
        self.assertEqual(moves_of(Net(), {}, {}), 0)
        self.assertEqual(moves_of(Net(), {"a": 4}, {}), 0)
        self.assertEqual(moves_of(net_of("point a"), {}, {"a": 3}), 0)

    def test_up_and_down(self):
        net = net_of("point a", "point b", "point c")
        self.assertEqual(moves_of(net, {"a": 4, "b": 4, "c": 4}, {"a": 1, "b": 9, "c": 4}), 3 + 5)
        self.assertEqual(moves_of(net, {"c": 10 ** 6}, {"a": 1, "b": 9, "c": 0}), 10 ** 6)

    def test_only_points_that_the_old_ones_tell_of(self):
        net = net_of("point a", "point b")
        self.assertEqual(moves_of(net, {"b": 2, "x": 50}, {"a": 7, "b": 1}), 1)
        self.assertEqual(moves_of(net, {"b": 2, "x": 50}, {"a": 7, "b": 1, "x": 0}), 1)

    def test_many_moves(self):
        chance = random.Random(98)
        for time in range(100):
            net = random_net(chance, chance.randint(0, 20), 0, 0, 0, 1, 0)
            old = random_old(chance, net, 30)
            levels = {name: chance.randint(0, 30) for name in net.points()}
            self.assertEqual(moves_of(net, old, levels), moves_by_the_words(net, old, levels))


class AskersOwnTest(unittest.TestCase):
    def handed(self):
        net = net_of("point a 1", "point b 2", "point c 3", "arrow a b", "arrow b c 2", "arrow c a", "most a c 5")
        return net, {"a": 4, "c": 1, "x": 9}

    def told(self, net, old):
        levels, flow, moves, paper = again(net, old)
        return [levels, flow, moves, paper, wishes_again(net, old, flow), moves_of(net, old, levels)]

    def test_the_same_asked_twice(self):
        net, old = self.handed()
        self.assertEqual(self.told(net, old), self.told(net, old))
        self.assertEqual(self.told(net, old), self.told(*self.handed()))
        self.assertEqual((told(net), old), (told(self.handed()[0]), self.handed()[1]))

    def test_levels_and_flows_handed_in_stay(self):
        net, old = self.handed()
        levels, flow = {"a": 0, "b": 1, "c": 3}, [1, 0, 2, 0]
        wishes_again(net, old, flow)
        moves_of(net, old, levels)
        self.assertEqual((old, levels, flow), (self.handed()[1], {"a": 0, "b": 1, "c": 3}, [1, 0, 2, 0]))

    def test_what_the_asker_does_to_what_is_told_changes_nothing(self):
        net, old = self.handed()
        first = self.told(net, old)
        levels, flow, moves, paper = again(net, old)
        wishes_again(net, old, flow)[1].clear()
        levels.clear()
        flow.append(3)
        paper.pop()
        self.assertEqual(self.told(net, old), first)
        self.assertEqual(told(net), told(self.handed()[0]))

    def test_what_is_done_later_changes_nothing_that_was_told(self):
        net, old = self.handed()
        first = self.told(net, old)
        old["a"] = 0
        old.pop("c")
        net.take_arrow(0)
        net.put_point("d")
        net.put_same("a", "d")
        self.assertEqual(first, self.told(*self.handed()))

    def test_old_levels_told_by_the_program(self):
        net, old = self.handed()
        levels = levelled(net)[0]
        kept = dict(levels)
        new = again(net, levels)[0]
        new["a"] = 40
        self.assertEqual(levels, kept)

    def test_a_ring_told_is_the_askers_own(self):
        net = net_of("point a", "point b", "arrow a b", "same b a")
        found = []
        for time in range(2):
            with self.assertRaises(Ring) as taken:
                again(net, {"a": 1})
            found.append(list(taken.exception.ring))
            taken.exception.ring.clear()
        self.assertEqual(found[0], found[1])
        self.assertTrue(goes_round(wishes_by_the_words(net), found[0]))


if __name__ == "__main__":
    unittest.main()
