import inspect
import random
import unittest

from checks import told, turned_by_the_words
from layerdraw import rings
from layerdraw.errors import NoSuch
from layerdraw.nets import Net
from layerdraw.rings import in_line, ring_of, turned

LETTERS = "abcdefghijklmnopqrst"


def net_of(names, pairs):
    net = Net()
    for name in names:
        net.put_point(name)
    for one, other in pairs:
        net.put_arrow(one, other)
    return net


def random_net(chance, names, arrows):
    net = net_of(names, [])
    for time in range(arrows):
        one, other = chance.sample(names, 2)
        net.put_arrow(one, other, chance.randint(1, 20), chance.randint(1, 9))
        if chance.randrange(5) == 0:
            net.take_arrow(chance.choice(net.arrows())[0])
    return net


class RingsCase(unittest.TestCase):
    def look_at(self, net):
        """Checks all that is told of a net, arrow by arrow, and tells the turned ones."""
        ahead = told(net)
        numbers = turned(net)
        self.assertEqual(numbers, turned_by_the_words(net))
        ends = {number: (one, other) for number, one, other, span, weight in net.arrows()}
        for number in ends:
            if number in numbers:
                self.look_at_ring(ring_of(net, number), number, ends, numbers)
            else:
                self.refused(net, number)
        self.look_at_line(net, ends, numbers)
        self.assertEqual(told(net), ahead)
        return numbers

    def look_at_ring(self, ring, number, ends, numbers):
        self.assertEqual(ring[0], number)
        self.assertEqual(len(set(ring)), len(ring))
        for kept in ring[1:]:
            self.assertIn(kept, ends)
            self.assertNotIn(kept, numbers)
        for near, far in zip(ring, ring[1:] + ring[:1]):
            self.assertEqual(ends[near][1], ends[far][0])

    def look_at_line(self, net, ends, numbers):
        line = in_line(net)
        self.assertEqual(sorted(line), sorted(net.points()))
        for number, (one, other) in ends.items():
            rises = line.index(one) < line.index(other)
            self.assertEqual(rises, number not in numbers, number)

    def refused(self, net, number):
        ahead = told(net)
        with self.assertRaises(NoSuch) as taken:
            ring_of(net, number)
        self.assertIs(type(taken.exception), NoSuch)
        self.assertEqual(taken.exception.number, number)
        self.assertEqual(told(net), ahead)


class TurnedTest(RingsCase):
    def test_the_names_and_arguments(self):
        self.assertEqual(str(inspect.signature(rings.turned)), "(net)")
        self.assertEqual(str(inspect.signature(rings.ring_of)), "(net, number)")
        self.assertEqual(str(inspect.signature(rings.in_line)), "(net)")

    def test_a_net_without_anything(self):
        net = Net()
        self.assertEqual(self.look_at(net), [])
        self.assertEqual(in_line(net), [])
        self.refused(net, 0)

    def test_points_without_arrows(self):
        self.assertEqual(self.look_at(net_of("cab", [])), [])

    def test_nets_without_a_ring(self):
        self.assertEqual(self.look_at(net_of("abc", ["ab", "bc", "ac"])), [])
        self.assertEqual(self.look_at(net_of("abc", ["cb", "ba", "ca", "cb"])), [])
        self.assertEqual(self.look_at(net_of("abcd", ["ab", "cd"])), [])
        self.assertEqual(self.look_at(net_of("abcd", ["ad", "bd", "cd"])), [])

    def test_rings_of_two_arrows(self):
        net = net_of("ab", ["ab", "ba"])
        self.assertEqual(self.look_at(net), [1])
        self.assertEqual(ring_of(net, 1), [1, 0])
        self.assertEqual(in_line(net), ["a", "b"])
        net = net_of("ab", ["ba", "ab"])
        self.assertEqual(self.look_at(net), [1])
        self.assertEqual(in_line(net), ["b", "a"])

    def test_rings_of_more_arrows(self):
        for count in range(3, 21):
            names = LETTERS[:count]
            net = net_of(names, list(zip(names, names[1:] + names[:1])))
            self.assertEqual(self.look_at(net), [count - 1])
            self.assertEqual(ring_of(net, count - 1), [count - 1] + list(range(count - 1)))
            self.assertEqual(in_line(net), list(names))

    def test_the_numbers_settle_which_one_is_turned(self):
        self.assertEqual(self.look_at(net_of("abc", ["ca", "ab", "bc"])), [2])
        self.assertEqual(self.look_at(net_of("abc", ["bc", "ca", "ab"])), [2])

    def test_a_turned_arrow_leads_nowhere(self):
        # The arrow 2 is turned; only with it would the arrow 4 close a ring.
        self.assertEqual(self.look_at(net_of("abcd", ["ab", "bc", "ca", "dc", "ad"])), [2])

    def test_alike_arrows(self):
        self.assertEqual(self.look_at(net_of("ab", ["ab", "ab", "ba", "ab", "ba", "ba"])), [2, 4, 5])

    def test_arrows_taken_out(self):
        net = net_of("abc", ["ab", "bc", "ca", "ba"])
        self.assertEqual(self.look_at(net), [2, 3])
        net.take_arrow(0)
        self.assertEqual(self.look_at(net), [])
        self.refused(net, 0)
        net.put_arrow("a", "b")
        self.assertEqual(self.look_at(net), [4])
        net.take_arrow(4)
        self.refused(net, 4)
        self.assertEqual(self.look_at(net), [])

    def test_sames_and_mosts_do_not_count(self):
        net = net_of("ab", ["ab"])
        net.put_same("b", "a")
        net.put_most("b", "a", 1)
        self.assertEqual(self.look_at(net), [])
        net.put_arrow("b", "a")
        self.assertEqual(self.look_at(net), [1])

    def test_numbers_that_no_arrow_has(self):
        net = net_of("ab", ["ab", "ba"])
        for number in (-1, -2, 2, 10 ** 9):
            self.refused(net, number)
        self.refused(net, True)

    def test_many_nets(self):
        chance = random.Random(20)
        for time in range(120):
            count = chance.randint(2, 20)
            self.look_at(random_net(chance, LETTERS[:count], chance.randint(0, 40)))


class AskersOwnTest(RingsCase):
    def asked(self, net):
        return [turned(net), in_line(net)] + [ring_of(net, number) for number in turned(net)]

    def test_what_the_asker_does_to_a_list_changes_nothing(self):
        net = random_net(random.Random(3), LETTERS[:6], 30)
        first = self.asked(net)
        self.assertGreater(len(first), 3)
        again = self.asked(net)
        self.assertEqual(first, again)
        for row in first:
            self.assertIs(type(row), list)
            row.reverse()
            row.append("x")
        self.assertEqual(self.asked(net), again)

    def test_what_is_done_later_changes_no_told_list(self):
        net = net_of("ab", ["ab", "ba"])
        first = self.asked(net)
        net.take_arrow(0)
        net.put_point("c")
        net.put_arrow("a", "c")
        self.assertEqual(first, [[1], ["a", "b"], [1, 0]])


if __name__ == "__main__":
    unittest.main()
