import inspect
import unittest

from checks import told
from layerdraw.errors import Alone, NoName, NoNumber, NoPoint, NoSuch, Taken, TooMany
from layerdraw.nets import Net

LETTERS = "abcdefghijklmnopqrstuvwxyz"
BAD_NAMES = ["", "abcdefghi", "A", "aB", "Ab", " ", "a b", " a", "a ", "1", "a1", "a_", "a.b", "a-b", "a\n", "\n",
             "\u00e4", "a\u00df", "\u0131", "\u00aa"]


def net_of(names):
    net = Net()
    for name in names:
        net.put_point(name)
    return net


class NetCase(unittest.TestCase):
    def refused(self, kind, net, method, *handed):
        """The call is refused with just this kind, and nothing that the net tells has changed."""
        ahead = told(net)
        with self.assertRaises(kind) as taken:
            getattr(net, method)(*handed)
        self.assertIs(type(taken.exception), kind)
        self.assertEqual(told(net), ahead)
        return taken.exception

    def refused_point(self, net, method, missing, *handed):
        self.assertEqual(self.refused(NoPoint, net, method, *handed).name, missing)


class BeginningTest(NetCase):
    def test_a_net_begins_with_nothing(self):
        self.assertEqual(told(Net()), ([], [], [], [], []))

    def test_two_nets_are_apart(self):
        first = net_of("ab")
        first.put_arrow("a", "b")
        first.put_same("a", "b")
        first.put_most("a", "b", 1)
        self.assertEqual(told(Net()), ([], [], [], [], []))

    def test_arguments_by_their_names(self):
        net = Net()
        net.put_point(name="a", half=3)
        net.put_point(name="b")
        self.assertEqual(net.put_arrow(one="a", other="b", span=2, weight=5), 0)
        net.put_same(one="a", other="b")
        net.put_most(one="b", other="a", number=4)
        self.assertEqual(net.half_of(name="a"), 3)
        self.assertEqual(told(net), (["a", "b"], [3, 0], [(0, "a", "b", 2, 5)], [("a", "b")], [("b", "a", 4)]))
        net.take_arrow(number=0)
        self.assertEqual(net.arrows(), [])

    def test_parameters_stand_as_the_interface_says(self):
        asked = {
            "__init__": "(self)",
            "put_point": "(self, name, half=0)",
            "put_arrow": "(self, one, other, span=1, weight=1)",
            "put_same": "(self, one, other)",
            "put_most": "(self, one, other, number)",
            "take_arrow": "(self, number)",
            "half_of": "(self, name)",
        }
        for method, parameters in asked.items():
            self.assertEqual(str(inspect.signature(getattr(Net, method))), parameters, method)


class PointsTest(NetCase):
    def test_points_stand_in_the_order_they_were_put_in(self):
        net = Net()
        for name in ("zeta", "a", "mid"):
            self.assertIsNone(net.put_point(name))
        self.assertEqual(net.points(), ["zeta", "a", "mid"])

    def test_names_of_one_to_eight_small_letters(self):
        names = list(LETTERS[:13]) + ["abcdefgh", "zyxwvuts"]
        self.assertEqual(net_of(names).points(), names)
        self.assertEqual(net_of(LETTERS[13:]).points(), list(LETTERS[13:]))

    def test_what_is_no_name(self):
        net = net_of("a")
        for name in BAD_NAMES:
            with self.subTest(name=name):
                self.refused(NoName, net, "put_point", name)

    def test_what_is_no_text_is_no_name(self):
        net = net_of("a")
        for name in (5, None, True, ["b"], ("b",)):
            with self.subTest(name=name):
                self.refused(NoName, net, "put_point", name)

    def test_half_widths(self):
        net = Net()
        net.put_point("a")
        net.put_point("b", 0)
        net.put_point("c", 50)
        net.put_point("d", 1)
        self.assertEqual([net.half_of(name) for name in net.points()], [0, 0, 50, 1])

    def test_half_widths_out_of_range(self):
        net = net_of("a")
        for half in (-1, 51, -10 ** 9, 10 ** 9, True, False):
            with self.subTest(half=half):
                self.refused(NoNumber, net, "put_point", "b", half)

    def test_a_name_that_is_taken(self):
        net = Net()
        net.put_point("a", 7)
        self.refused(Taken, net, "put_point", "a")
        self.refused(Taken, net, "put_point", "a", 9)
        self.assertEqual(net.half_of("a"), 7)

    def test_half_of_a_name_that_no_point_has(self):
        net = net_of("a")
        for name in ("b", "", "A", "aa"):
            self.refused_point(net, "half_of", name, name)
        self.refused_point(Net(), "half_of", "a", "a")

    def test_the_twentieth_and_the_twenty_first(self):
        net = net_of(LETTERS[:19])
        net.put_point(LETTERS[19], 4)
        self.assertEqual(net.points(), list(LETTERS[:20]))
        self.refused(TooMany, net, "put_point", LETTERS[20])
        self.refused(TooMany, net, "put_point", LETTERS[20], 50)

    def test_the_order_of_refusals(self):
        full = net_of(LETTERS[:20])
        self.refused(NoName, full, "put_point", "A", -1)
        self.refused(NoName, full, "put_point", "", 3)
        self.refused(Taken, full, "put_point", "a", -1)
        self.refused(Taken, full, "put_point", "a", 3)
        self.refused(NoNumber, full, "put_point", "z", 51)
        self.refused(TooMany, full, "put_point", "z", 50)
        part = net_of("a")
        self.refused(NoName, part, "put_point", "1", 51)
        self.refused(Taken, part, "put_point", "a", 51)


class ArrowsTest(NetCase):
    def test_arrows_are_told_with_their_numbers(self):
        net = net_of("abc")
        self.assertEqual(net.put_arrow("c", "a"), 0)
        self.assertEqual(net.put_arrow("a", "b", 3), 1)
        self.assertEqual(net.put_arrow("b", "a", 2, 7), 2)
        self.assertEqual(net.arrows(), [(0, "c", "a", 1, 1), (1, "a", "b", 3, 1), (2, "b", "a", 2, 7)])

    def test_alike_arrows(self):
        net = net_of("ab")
        self.assertEqual([net.put_arrow("a", "b", 2, 3) for time in range(3)], [0, 1, 2])
        self.assertEqual(net.arrows(), [(k, "a", "b", 2, 3) for k in range(3)])
        net.take_arrow(1)
        self.assertEqual(net.arrows(), [(0, "a", "b", 2, 3), (2, "a", "b", 2, 3)])

    def test_numbers_are_kept_and_none_is_given_twice(self):
        net = net_of("abc")
        for one, other in ("ab", "bc", "ca"):
            net.put_arrow(one, other)
        self.assertIsNone(net.take_arrow(2))
        self.assertEqual(net.put_arrow("a", "c"), 3)
        net.take_arrow(0)
        self.assertEqual(net.arrows(), [(1, "b", "c", 1, 1), (3, "a", "c", 1, 1)])
        self.assertEqual(net.put_arrow("a", "b"), 4)
        for number in (1, 3, 4):
            net.take_arrow(number)
        self.assertEqual(net.arrows(), [])
        self.assertEqual(net.put_arrow("a", "b"), 5)

    def test_a_refused_arrow_uses_no_number(self):
        net = net_of("ab")
        self.refused_point(net, "put_arrow", "z", "a", "z")
        self.refused(Alone, net, "put_arrow", "a", "a")
        self.refused(NoNumber, net, "put_arrow", "a", "b", 0)
        self.assertEqual(net.put_arrow("a", "b"), 0)
        self.refused(NoNumber, net, "put_arrow", "a", "b", 1, 0)
        self.assertEqual(net.put_arrow("a", "b"), 1)

    def test_spans_and_weights_at_their_edges(self):
        net = net_of("ab")
        for span, weight in ((1, 1), (20, 1), (1, 10 ** 6), (20, 10 ** 6)):
            number = net.put_arrow("a", "b", span, weight)
            self.assertEqual(net.arrows()[-1], (number, "a", "b", span, weight))

    def test_spans_and_weights_out_of_range(self):
        net = net_of("ab")
        net.put_arrow("a", "b")
        for span, weight in ((0, 1), (21, 1), (-1, 1), (1, 0), (1, 10 ** 6 + 1), (1, -1), (0, 0), (21, 10 ** 6 + 1),
                             (True, 1), (1, True)):
            with self.subTest(span=span, weight=weight):
                self.refused(NoNumber, net, "put_arrow", "a", "b", span, weight)

    def test_points_that_are_not_there(self):
        net = net_of("ab")
        self.refused_point(net, "put_arrow", "x", "x", "b")
        self.refused_point(net, "put_arrow", "y", "a", "y")
        self.refused_point(net, "put_arrow", "x", "x", "y")
        self.refused_point(net, "put_arrow", "x", "x", "x")
        self.refused_point(net, "put_arrow", "", "", "")
        self.refused_point(net, "put_arrow", "A", "A", "b")

    def test_both_one_point(self):
        net = net_of("ab")
        self.refused(Alone, net, "put_arrow", "a", "a")
        self.refused(Alone, net, "put_arrow", "b", "b", 2, 2)

    def test_the_fortieth_and_the_forty_first(self):
        net = net_of("ab")
        self.assertEqual([net.put_arrow("a", "b") for time in range(40)], list(range(40)))
        self.refused(TooMany, net, "put_arrow", "a", "b")
        self.refused(TooMany, net, "put_arrow", "b", "a", 20, 10 ** 6)

    def test_at_a_time(self):
        net = net_of("ab")
        for time in range(40):
            net.put_arrow("a", "b")
        self.refused(TooMany, net, "put_arrow", "a", "b")
        net.take_arrow(17)
        self.assertEqual(net.put_arrow("b", "a"), 40)
        self.refused(TooMany, net, "put_arrow", "a", "b")
        self.assertEqual([row[0] for row in net.arrows()], [k for k in range(41) if k != 17])

    def test_the_order_of_refusals(self):
        full = net_of("ab")
        for time in range(40):
            full.put_arrow("a", "b")
        for net in (full, net_of("ab")):
            self.refused_point(net, "put_arrow", "x", "x", "x", 0, 0)
            self.refused_point(net, "put_arrow", "y", "a", "y", 21, 0)
            self.refused(Alone, net, "put_arrow", "a", "a", 0, 1)
            self.refused(Alone, net, "put_arrow", "a", "a", 1, 0)
            self.refused(NoNumber, net, "put_arrow", "a", "b", 0, 1)
            self.refused(NoNumber, net, "put_arrow", "a", "b", 1, 0)
        self.refused_point(full, "put_arrow", "x", "x", "b")
        self.refused(Alone, full, "put_arrow", "a", "a")
        self.refused(TooMany, full, "put_arrow", "a", "b", 1, 1)

    def test_taking_out_what_is_not_there(self):
        net = net_of("ab")
        self.assertEqual(self.refused(NoSuch, net, "take_arrow", 0).number, 0)
        net.put_arrow("a", "b")
        net.put_arrow("b", "a")
        for number in (2, -1, 10 ** 9):
            self.assertEqual(self.refused(NoSuch, net, "take_arrow", number).number, number)
        self.refused(NoSuch, net, "take_arrow", True)
        net.take_arrow(1)
        self.assertEqual(self.refused(NoSuch, net, "take_arrow", 1).number, 1)
        self.assertEqual(net.put_arrow("a", "b"), 2)


class SamesTest(NetCase):
    def test_sames_stand_in_the_order_they_were_put_in(self):
        net = net_of("abc")
        for one, other in ("cb", "ab", "bc", "cb", "cb"):
            self.assertIsNone(net.put_same(one, other))
        self.assertEqual(net.sames(), [("c", "b"), ("a", "b"), ("b", "c"), ("c", "b"), ("c", "b")])

    def test_the_twentieth_and_the_twenty_first(self):
        net = net_of("ab")
        for time in range(20):
            net.put_same("a", "b")
        self.assertEqual(net.sames(), [("a", "b")] * 20)
        self.refused(TooMany, net, "put_same", "a", "b")
        self.refused(TooMany, net, "put_same", "b", "a")

    def test_refusals_and_their_order(self):
        full = net_of("ab")
        for time in range(20):
            full.put_same("a", "b")
        for net in (full, net_of("ab")):
            self.refused_point(net, "put_same", "x", "x", "y")
            self.refused_point(net, "put_same", "x", "x", "x")
            self.refused_point(net, "put_same", "x", "x", "b")
            self.refused_point(net, "put_same", "y", "a", "y")
            self.refused(Alone, net, "put_same", "a", "a")


class MostsTest(NetCase):
    def test_mosts_stand_in_the_order_they_were_put_in(self):
        net = net_of("abc")
        rows = [("c", "b", 5), ("a", "b", 0), ("b", "a", 99), ("c", "b", 5), ("c", "b", 4)]
        for one, other, number in rows:
            self.assertIsNone(net.put_most(one, other, number))
        self.assertEqual(net.mosts(), rows)

    def test_numbers_out_of_range(self):
        net = net_of("ab")
        net.put_most("a", "b", 1)
        for number in (-1, 100, -10 ** 9, 10 ** 9, True):
            with self.subTest(number=number):
                self.refused(NoNumber, net, "put_most", "a", "b", number)

    def test_the_twentieth_and_the_twenty_first(self):
        net = net_of("ab")
        for number in range(20):
            net.put_most("a", "b", number)
        self.assertEqual(net.mosts(), [("a", "b", number) for number in range(20)])
        self.refused(TooMany, net, "put_most", "a", "b", 3)

    def test_refusals_and_their_order(self):
        full = net_of("ab")
        for time in range(20):
            full.put_most("a", "b", 0)
        for net in (full, net_of("ab")):
            self.refused_point(net, "put_most", "x", "x", "y", -1)
            self.refused_point(net, "put_most", "x", "x", "x", 100)
            self.refused_point(net, "put_most", "x", "x", "b", 1)
            self.refused_point(net, "put_most", "y", "a", "y", 1)
            self.refused(Alone, net, "put_most", "a", "a", -1)
            self.refused(Alone, net, "put_most", "a", "a", 5)
            self.refused(NoNumber, net, "put_most", "a", "b", -1)
            self.refused(NoNumber, net, "put_most", "a", "b", 100)

    def test_each_sort_has_its_own_bound(self):
        net = net_of(LETTERS[:20])
        for time in range(20):
            net.put_same("a", "b")
            net.put_most("a", "b", 0)
            net.put_arrow("a", "b")
            net.put_arrow("b", "a")
        self.assertEqual([len(net.points()), len(net.arrows()), len(net.sames()), len(net.mosts())], [20, 40, 20, 20])
        net.take_arrow(0)
        self.refused(TooMany, net, "put_same", "a", "b")
        self.refused(TooMany, net, "put_most", "a", "b", 0)
        self.refused(TooMany, net, "put_point", "z")


class AskersOwnTest(NetCase):
    def filled(self):
        net = Net()
        net.put_point("a", 3)
        net.put_point("b", 4)
        net.put_arrow("a", "b", 2, 9)
        net.put_arrow("b", "a")
        net.put_same("a", "b")
        net.put_most("a", "b", 7)
        return net

    def test_what_the_asker_does_to_a_list_changes_nothing(self):
        net = self.filled()
        ahead = told(net)
        for method in ("points", "arrows", "sames", "mosts"):
            for change in (list.clear, list.reverse, list.pop, lambda rows: rows.append("x")):
                change(getattr(net, method)())
                self.assertEqual(told(net), ahead, method)

    def test_what_is_done_later_changes_no_told_list(self):
        net = self.filled()
        points, arrows, sames, mosts = net.points(), net.arrows(), net.sames(), net.mosts()
        net.put_point("c")
        net.put_arrow("c", "a")
        net.take_arrow(0)
        net.put_same("b", "c")
        net.put_most("b", "c", 1)
        self.assertEqual(points, ["a", "b"])
        self.assertEqual(arrows, [(0, "a", "b", 2, 9), (1, "b", "a", 1, 1)])
        self.assertEqual(sames, [("a", "b")])
        self.assertEqual(mosts, [("a", "b", 7)])

    def test_each_told_list_is_a_new_one(self):
        net = self.filled()
        for method in ("points", "arrows", "sames", "mosts"):
            ask = getattr(net, method)
            first, second = ask(), ask()
            self.assertIs(type(first), list)
            self.assertEqual(first, second)
            self.assertIsNot(first, second)

    def test_rows_are_tuples(self):
        net = self.filled()
        for row in net.arrows() + net.sames() + net.mosts():
            self.assertIs(type(row), tuple)


if __name__ == "__main__":
    unittest.main()
