import inspect
import unittest

from checks import told
from layerdraw import reading
from layerdraw.errors import NoLine
from layerdraw.nets import Net
from layerdraw.reading import net_text, read_net

LETTERS = "abcdefghijklmnopqrstuvwxyz"
TWO = "point a\npoint b\n"


def full_net():
    net = Net()
    for k in range(20):
        net.put_point(LETTERS[k], k * 50 // 19)
    for k in range(40):
        net.put_arrow(LETTERS[k % 20], LETTERS[(k + 3) % 20], k % 20 + 1, 10 ** (k % 7))
    for k in range(20):
        net.put_same(LETTERS[k], LETTERS[(k + 1) % 20])
        net.put_most(LETTERS[k], LETTERS[(k + 2) % 20], k * 99 // 19)
    return net


class TextTest(unittest.TestCase):
    def test_the_names_and_arguments(self):
        self.assertEqual(str(inspect.signature(reading.read_net)), "(text)")
        self.assertEqual(str(inspect.signature(reading.net_text)), "(net)")

    def test_a_net_without_anything(self):
        self.assertEqual(net_text(Net()), "")

    def test_halves(self):
        net = Net()
        for name, half in (("zero", 0), ("one", 1), ("nine", 9), ("fifty", 50)):
            net.put_point(name, half)
        self.assertEqual(net_text(net), "point zero\npoint one 1\npoint nine 9\npoint fifty 50")

    def test_spans_and_weights(self):
        net = read_net("point a\npoint bb")
        rows = [(1, 1), (2, 1), (20, 1), (1, 2), (1, 10 ** 6), (20, 10 ** 6), (10, 10)]
        for span, weight in rows:
            net.put_arrow("a", "bb", span, weight)
        self.assertEqual(net_text(net).split("\n"), [
            "point a", "point bb", "arrow a bb", "arrow a bb 2", "arrow a bb 20", "arrow a bb 1 2",
            "arrow a bb 1 1000000", "arrow a bb 20 1000000", "arrow a bb 10 10",
        ])

    def test_mosts_of_nought_and_more(self):
        net = read_net("point a\npoint b")
        for number in (0, 1, 99):
            net.put_most("b", "a", number)
        self.assertEqual(net_text(net), "point a\npoint b\nmost b a 0\nmost b a 1\nmost b a 99")

    def test_the_four_sorts_stand_one_behind_the_other_in_their_orders(self):
        net = Net()
        net.put_point("z")
        net.put_point("a", 2)
        net.put_most("a", "z", 3)
        net.put_same("z", "a")
        net.put_arrow("z", "a")
        net.put_same("a", "z")
        net.put_arrow("a", "z", 4)
        net.put_point("m")
        net.put_most("a", "m", 0)
        self.assertEqual(net_text(net), "\n".join([
            "point z", "point a 2", "point m", "arrow z a", "arrow a z 4", "same z a", "same a z", "most a z 3",
            "most a m 0",
        ]))

    def test_behind_an_arrow_that_was_taken_out(self):
        net = read_net(TWO + "arrow a b 2\narrow b a 3\narrow a b 4")
        net.take_arrow(1)
        self.assertEqual(net_text(net), TWO + "arrow a b 2\narrow a b 4")
        net.put_arrow("b", "a", 5)
        self.assertEqual(net_text(net), TWO + "arrow a b 2\narrow a b 4\narrow b a 5")
        for number in (0, 2, 3):
            net.take_arrow(number)
        self.assertEqual(net_text(net), "point a\npoint b")

    def test_asking_changes_nothing(self):
        net = full_net()
        ahead = told(net)
        self.assertEqual(net_text(net), net_text(net))
        self.assertEqual(told(net), ahead)


class ReadTest(unittest.TestCase):
    def test_the_text_without_signs(self):
        net = read_net("")
        self.assertIsInstance(net, Net)
        self.assertEqual(told(net), ([], [], [], [], []))

    def test_each_sort_of_line(self):
        net = read_net("point a\npoint abcdefgh 50\narrow a abcdefgh\narrow abcdefgh a 20\narrow a abcdefgh 1 1000000\n"
                       "same a abcdefgh\nmost abcdefgh a 99")
        self.assertEqual(told(net), (
            ["a", "abcdefgh"], [0, 50],
            [(0, "a", "abcdefgh", 1, 1), (1, "abcdefgh", "a", 20, 1), (2, "a", "abcdefgh", 1, 10 ** 6)],
            [("a", "abcdefgh")], [("abcdefgh", "a", 99)],
        ))

    def test_any_order(self):
        net = read_net("point a\npoint b\nmost a b 0\nsame b a\narrow a b 3\npoint c 7\nsame c a\narrow c b\nmost c a 5")
        self.assertEqual(told(net), (
            ["a", "b", "c"], [0, 0, 7], [(0, "a", "b", 3, 1), (1, "c", "b", 1, 1)], [("b", "a"), ("c", "a")],
            [("a", "b", 0), ("c", "a", 5)],
        ))

    def test_lines_that_say_what_may_be_left_out(self):
        net = read_net("point a 0\npoint b\narrow a b 1\narrow a b 1 1\narrow a b 3 1\nmost a b 0")
        self.assertEqual(told(net), (
            ["a", "b"], [0, 0], [(0, "a", "b", 1, 1), (1, "a", "b", 1, 1), (2, "a", "b", 3, 1)], [], [("a", "b", 0)],
        ))
        self.assertEqual(net_text(net), "point a\npoint b\narrow a b\narrow a b\narrow a b 3\nmost a b 0")

    def test_points_called_like_the_sorts(self):
        text = "point point\npoint arrow 3\npoint same\npoint most\narrow arrow point 2\nsame same most\nmost most same 4"
        self.assertEqual(net_text(read_net(text)), text)

    def test_the_text_of_a_net_read_back(self):
        net = full_net()
        back = read_net(net_text(net))
        self.assertEqual(told(back), told(net))
        self.assertEqual(net_text(back), net_text(net))

    def test_read_back_the_arrows_are_numbered_anew(self):
        net = full_net()
        for number in (0, 7, 39, 20):
            net.take_arrow(number)
        back = read_net(net_text(net))
        left = [row[1:] for row in net.arrows()]
        self.assertEqual(back.arrows(), [(k,) + row for k, row in enumerate(left)])
        self.assertEqual((back.points(), back.sames(), back.mosts()), (net.points(), net.sames(), net.mosts()))
        self.assertEqual(back.put_arrow("a", "b"), 36)

    def test_two_nets_read_from_one_text_are_apart(self):
        text = net_text(full_net())
        first, second = read_net(text), read_net(text)
        self.assertEqual(told(first), told(second))
        first.take_arrow(3)
        self.assertEqual(told(second), told(full_net()))


class RefusedTest(unittest.TestCase):
    def refused(self, text, number):
        with self.subTest(text=text):
            for time in range(2):
                with self.assertRaises(NoLine) as taken:
                    read_net(text)
                self.assertIs(type(taken.exception), NoLine)
                self.assertEqual(taken.exception.number, number)

    def refused_behind_two(self, line):
        self.refused(TWO + line, 2)
        self.refused(TWO + line + "\narrow a b", 2)
        self.refused(TWO + "arrow a b\n" + line, 3)

    def test_a_line_without_signs(self):
        self.refused("\n", 0)
        self.refused("\npoint a", 0)
        self.refused("point a\n", 1)
        self.refused("point a\n\npoint b", 1)
        self.refused(TWO + "arrow a b\n", 3)

    def test_blanks(self):
        for line in (" ", "  ", " point c", "point c ", "point  c", "point c  3", "point c 3 ", "arrow a  b", "arrow  a b",
                     "arrow a b  2", "arrow a b ", "arrow a b 2 ", "arrow a b 2  2", " arrow a b", "same a  b",
                     "same a b ", " same a b", "most a b  1", "most a b 1 ", "most  a b 1", "\tpoint c", "point\tc",
                     "point c\t", "point c\r", "point c\x0b3"):
            self.refused_behind_two(line)

    def test_other_words(self):
        for line in ("x", "points c", "Point c", "POINT c", "drop 0", "net", "0", "a b", "arrow", "point", "same", "most",
                     "arrow a", "same a", "most a", "most a b", "point c 1 1", "arrow a b 1 1 1", "same a b 1", "same a b c",
                     "most a b 1 1", "point c d", "pointc", "arrow a b c", "#", "point c;"):
            self.refused_behind_two(line)

    def test_numbers_that_are_not_written_so(self):
        for word in ("00", "01", "007", "00000001", "12345678", "10000000", "100000000", "-1", "-0", "+1", "1.", "1.0",
                     "0x1", "1e1", "1_0", "one", "", "\u0661", "\u00b2", "\uff11", "1,", "--1"):
            self.refused_behind_two("point c " + word)
            self.refused_behind_two("arrow a b " + word)
            self.refused_behind_two("arrow a b 1 " + word)
            self.refused_behind_two("arrow a b " + word + " 1")
            self.refused_behind_two("most a b " + word)

    def test_numbers_out_of_their_ranges(self):
        for line in ("point c 51", "point c 9999999", "arrow a b 0", "arrow a b 21", "arrow a b 0 1", "arrow a b 21 2",
                     "arrow a b 1 0", "arrow a b 1 1000001", "arrow a b 1 9999999", "most a b 100", "most a b 9999999"):
            self.refused_behind_two(line)

    def test_names_that_are_none(self):
        for name in ("abcdefghi", "C", "c1", "3", "c-d", "\u00e4", "c.d"):
            self.refused_behind_two("point " + name)
            self.refused_behind_two("point " + name + " 2")

    def test_strangers(self):
        for kind, rest in (("arrow", ""), ("arrow", " 2"), ("arrow", " 2 2"), ("same", ""), ("most", " 1")):
            self.refused_behind_two(f"{kind} x b{rest}")
            self.refused_behind_two(f"{kind} a x{rest}")
            self.refused_behind_two(f"{kind} x x{rest}")

    def test_one_point_twice(self):
        for line in ("arrow a a", "arrow b b 2 2", "same a a", "most b b 1"):
            self.refused_behind_two(line)

    def test_a_point_once_more(self):
        for line in ("point a", "point b", "point b 0", "point a 7"):
            self.refused_behind_two(line)
        self.refused("point a\npoint a", 1)

    def test_a_line_ahead_of_one_of_its_points(self):
        for line in ("arrow a b", "same a b", "most a b 1"):
            self.refused(line, 0)
            self.refused(line + "\n" + TWO + "same a b", 0)
            self.refused("point a\n" + line + "\npoint b", 1)
            self.refused("point b\n" + line + "\npoint a", 1)

    def test_one_too_many(self):
        points = "\n".join("point " + sign for sign in LETTERS[:20])
        self.assertEqual(len(read_net(points).points()), 20)
        self.refused(points + "\npoint z", 20)
        for line, most in (("arrow a b", 40), ("same a b", 20), ("most a b 1", 20)):
            rows = TWO + "\n".join([line] * most)
            self.assertEqual(net_text(read_net(rows)), rows)
            self.refused(rows + "\n" + line, 2 + most)
            self.refused(rows + "\n" + line + "\nx", 2 + most)
            self.refused(rows + "\npoint c\n" + line, 3 + most)

    def test_the_first_of_several(self):
        self.refused("point a\npoint b 51\npoint a\nx", 1)
        self.refused("point a\nx\npoint b 51", 1)
        self.refused("x\n\n", 0)
        self.refused("point a\npoint b\narrow b a 0\nsame a a", 2)
        self.refused("point a\narrow a b\npoint B", 1)


if __name__ == "__main__":
    unittest.main()
