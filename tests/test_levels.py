import inspect
import itertools
import random
import unittest

from checks import faults, goes_round, keeps_all, told, wishes_by_the_words, worth_of
from layerdraw import levels as module
from layerdraw.errors import Ring, TooLong
from layerdraw.items import Own, Small
from layerdraw.levels import halves_of, keeps_net, length, levelled, marks_of, pairs_of, rows_of, wishes_of
from layerdraw.nets import Net
from made import LETTERS, net_of, random_net


class WishesTest(unittest.TestCase):
    def look_at(self, net):
        ahead = told(net)
        wishes = wishes_of(net)
        self.assertEqual(wishes, wishes_by_the_words(net))
        self.assertIs(type(wishes), list)
        self.assertTrue(all(type(wish) is tuple for wish in wishes))
        self.assertEqual(told(net), ahead)
        return wishes

    def test_the_names_and_arguments(self):
        for name, parameters in (("wishes_of", "(net)"), ("keeps_net", "(net, levels)"), ("length", "(net, levels)"),
                                 ("levelled", "(net)"), ("rows_of", "(net, levels)"), ("marks_of", "(rows)"),
                                 ("halves_of", "(rows)"), ("pairs_of", "(lines)")):
            self.assertEqual(str(inspect.signature(getattr(module, name))), parameters)

    def test_nothing_to_wish(self):
        self.assertEqual(wishes_of(Net()), [])
        self.assertEqual(wishes_of(net_of("point a", "point b 7")), [])

    def test_a_kept_arrow(self):
        self.assertEqual(wishes_of(net_of("point a", "point b", "arrow b a")), [(1, 0, 1, 1)])
        self.assertEqual(wishes_of(net_of("point a", "point b", "arrow a b 20 1000000")), [(0, 1, 20, 10 ** 6)])

    def test_a_turned_arrow(self):
        net = net_of("point a", "point b", "point c", "arrow b c 2 3", "arrow c a 4 5", "arrow a b 6 7", "arrow c b 8")
        self.assertEqual(wishes_of(net), [(1, 2, 2, 3), (2, 0, 4, 5), (1, 0, 6, 7), (1, 2, 8, 1)])

    def test_alike_ones(self):
        net = net_of("point a", "point b", "arrow a b 3 2", "arrow a b 3 2", "arrow b a 3 2", "arrow b a 3 2",
                     "same a b", "same a b", "most a b 4", "most a b 4")
        self.assertEqual(wishes_of(net), [(0, 1, 3, 2)] * 4 + [(0, 1, 0, 0), (1, 0, 0, 0)] * 2 + [(1, 0, -4, 0)] * 2)

    def test_sames_and_mosts(self):
        net = net_of("point a", "point b", "point c", "most a b 0", "most c a 99", "same c b", "arrow a c", "same a b")
        self.assertEqual(wishes_of(net), [(0, 2, 1, 1), (2, 1, 0, 0), (1, 2, 0, 0), (0, 1, 0, 0), (1, 0, 0, 0),
                                          (1, 0, 0, 0), (0, 2, -99, 0)])

    def test_an_arrow_taken_out_turns_another_one_back(self):
        net = net_of("point a", "point b", "arrow a b 2", "arrow b a 3", "arrow b a 4")
        self.assertEqual(wishes_of(net), [(0, 1, 2, 1), (0, 1, 3, 1), (0, 1, 4, 1)])
        net.take_arrow(0)
        self.assertEqual(wishes_of(net), [(1, 0, 3, 1), (1, 0, 4, 1)])
        net.put_arrow("a", "b", 5)
        self.assertEqual(wishes_of(net), [(1, 0, 3, 1), (1, 0, 4, 1), (1, 0, 5, 1)])

    def test_behind_each_change(self):
        chance = random.Random(51)
        for time in range(12):
            net = Net()
            names = LETTERS[:chance.randint(2, 20)]
            for name in names:
                net.put_point(name)
            for step in range(60):
                one, other = chance.sample(names, 2)
                sort = chance.randrange(7)
                if sort < 4 and len(net.arrows()) < 40:
                    net.put_arrow(one, other, chance.randint(1, 20), chance.randint(1, 10 ** 6))
                elif sort == 4 and len(net.sames()) < 20:
                    net.put_same(one, other)
                elif sort == 5 and len(net.mosts()) < 20:
                    net.put_most(one, other, chance.randint(0, 99))
                elif net.arrows():
                    net.take_arrow(chance.choice(net.arrows())[0])
                self.look_at(net)

    def test_a_full_net(self):
        wishes = self.look_at(random_net(random.Random(52), 20, 40, 20, 20, 20, 99))
        self.assertEqual(len(wishes), 40 + 40 + 20)


class KeepsTest(unittest.TestCase):
    def test_nothing_to_keep(self):
        self.assertIs(keeps_net(Net(), {}), True)
        self.assertEqual(length(Net(), {}), 0)
        net = net_of("point a", "point b")
        self.assertIs(keeps_net(net, {"a": 7, "b": 0}), True)
        self.assertEqual(length(net, {"a": 7, "b": 0}), 0)

    def test_an_arrow_missed_by_one(self):
        net = net_of("point a", "point b", "arrow a b 3 5")
        for level, keeps in ((2, False), (3, True), (4, True)):
            self.assertIs(keeps_net(net, {"a": 0, "b": level}), keeps)
            self.assertIs(keeps_net(net, {"b": level + 6, "a": 6}), keeps)
            self.assertEqual(length(net, {"a": 0, "b": level}), 5 * level)
        self.assertIs(keeps_net(net, {"a": 3, "b": 0}), False)

    def test_a_turned_arrow_missed_by_one(self):
        net = net_of("point a", "point b", "arrow a b", "arrow b a 3 5")
        for level, keeps in ((2, False), (3, True), (4, True)):
            self.assertIs(keeps_net(net, {"a": 1, "b": 1 + level}), keeps)
            self.assertEqual(length(net, {"a": 1, "b": 1 + level}), 6 * level)

    def test_a_same_missed_by_one(self):
        net = net_of("point a", "point b", "same a b")
        for level, keeps in ((3, False), (4, True), (5, False)):
            self.assertIs(keeps_net(net, {"a": 4, "b": level}), keeps)
            self.assertEqual(length(net, {"a": 4, "b": level}), 0)

    def test_a_most_missed_by_one(self):
        net = net_of("point a", "point b", "most a b 2")
        for level, keeps in ((0, True), (4, True), (6, True), (7, False)):
            self.assertIs(keeps_net(net, {"a": 4, "b": level}), keeps)
            self.assertEqual(length(net, {"a": 4, "b": level}), 0)
        net = net_of("point a", "point b", "most a b 0")
        self.assertIs(keeps_net(net, {"a": 4, "b": 4}), True)
        self.assertIs(keeps_net(net, {"a": 4, "b": 5}), False)

    def test_the_length_counts_each_arrow(self):
        net = net_of("point a", "point b", "point c", "arrow a b", "arrow b c 2 3", "arrow a c 1 10", "arrow c a 1 100",
                     "same a b", "most a c 9")
        self.assertEqual(length(net, {"a": 0, "b": 1, "c": 3}), 1 + 6 + 30 + 300)
        self.assertEqual(length(net, {"c": 13, "b": 10, "a": 5}), 5 + 9 + 80 + 800)

    def test_names_that_are_no_points_do_not_count(self):
        net = net_of("point b", "point a", "arrow b a")
        self.assertIs(keeps_net(net, {"a": 1, "x": 50, "b": 0}), True)
        self.assertEqual(length(net, {"x": 50, "b": 0, "a": 2}), 2)

    def test_many_levels(self):
        chance = random.Random(53)
        kept = 0
        for time in range(400):
            net = random_net(chance, chance.randint(2, 6), chance.randint(0, 5), chance.randint(0, 1), 2, 2, 5)
            levels = {name: chance.randint(0, 6) for name in net.points()}
            wishes = wishes_by_the_words(net)
            keeps = keeps_all(wishes, list(levels.values()))
            self.assertIs(keeps_net(net, levels), keeps)
            self.assertEqual(length(net, levels), worth_of(wishes, list(levels.values())))
            kept += keeps
        self.assertGreater(kept, 20)
        self.assertLess(kept, 380)


class LevelledCase(unittest.TestCase):
    def look_at(self, net):
        """Checks all that is told of the net, wish by wish, and tells the length, None for a ring."""
        ahead = told(net)
        wishes = wishes_by_the_words(net)
        try:
            answer = levelled(net)
        except Ring as refusal:
            self.assertIs(type(refusal.ring), list)
            self.assertTrue(goes_round(wishes, refusal.ring), refusal.ring)
            found = None
        else:
            found = self.look_at_answer(net, wishes, answer)
        self.assertEqual(told(net), ahead)
        return found

    def look_at_answer(self, net, wishes, answer):
        self.assertIs(type(answer), tuple)
        levels, flow = answer
        self.assertEqual((type(levels), type(flow)), (dict, list))
        self.assertEqual(sorted(levels), sorted(net.points()))
        places = [levels[name] for name in net.points()]
        self.assertEqual(faults(len(places), wishes, places, flow), [])
        self.assertEqual(length(net, levels), worth_of(wishes, places))
        self.assertIs(keeps_net(net, levels), True)
        return length(net, levels)


class LevelledTest(LevelledCase):
    def test_nets_without_arrows(self):
        self.assertEqual(levelled(Net()), ({}, []))
        self.assertEqual(levelled(net_of("point b", "point a")), ({"b": 0, "a": 0}, []))
        self.assertEqual(levelled(net_of("point b", "point a", "same a b"))[0], {"b": 0, "a": 0})

    def test_a_way(self):
        net = net_of("point c", "point b", "point a", "arrow a b 3 2", "arrow b c 2 5")
        self.assertEqual(levelled(net), ({"a": 0, "b": 3, "c": 5}, [2, 5]))
        self.assertEqual(self.look_at(net), 16)

    def test_turned_arrows(self):
        net = net_of("point a", "point b", "point c", "arrow a b", "arrow b c", "arrow c a 4 3")
        self.assertEqual(self.look_at(net), 4 + 12)
        self.assertEqual(levelled(net)[0]["c"], 4)

    def test_weights_pull(self):
        for first, second, level in ((1, 9, 4), (9, 1, 1)):
            net = net_of("point a", "point b", "point c", f"arrow a b 1 {first}", f"arrow b c 1 {second}", "arrow a c 5")
            self.assertEqual(levelled(net)[0], {"a": 0, "b": level, "c": 5})
            self.assertEqual(self.look_at(net), 5 + 9 + 4)

    def test_sames_and_mosts(self):
        net = net_of("point a", "point b", "point c", "point d", "arrow a b 3", "arrow c d", "same b d", "most a c 1")
        self.assertEqual(self.look_at(net), 3 + 2)
        net = net_of("point a", "point b", "point c", "arrow a b 2", "arrow a c 5", "most b c 2")
        self.assertEqual(levelled(net)[0], {"a": 0, "b": 3, "c": 5})

    def test_each_part_is_from_nought_on(self):
        net = net_of("point a", "point b", "point c", "point d", "point e", "point f", "point g",
                     "arrow c a 4", "arrow e b 2", "same f g")
        self.assertEqual(levelled(net)[0], {"a": 4, "b": 2, "c": 0, "d": 0, "e": 0, "f": 0, "g": 0})
        net.put_most("a", "e", 3)
        self.assertEqual(self.look_at(net), 6)

    def test_nets_that_no_levels_keep(self):
        for lines in (("arrow a b", "same a b"), ("arrow a b", "same b a"), ("arrow a b 5", "most a b 4"),
                      ("arrow a b", "arrow b a 7", "most a b 6"), ("arrow a b", "arrow b c", "same c a"),
                      ("arrow a b", "most a c 0", "same c b"), ("arrow c d", "arrow a b 20", "most a b 19")):
            net = net_of("point d", "point c", "point a", "point b", *lines)
            self.assertIsNone(self.look_at(net))
            with self.assertRaises(Ring):
                levelled(net)

    def test_mosts_that_just_leave_room(self):
        self.assertEqual(self.look_at(net_of("point a", "point b", "arrow a b 5", "most a b 5")), 5)
        self.assertEqual(self.look_at(net_of("point a", "point b", "arrow a b", "arrow b a 7", "most a b 7")), 14)
        self.assertEqual(self.look_at(net_of("point a", "point b", "arrow a b 20 1000000", "most a b 99")), 20 * 10 ** 6)

    def test_a_ring_of_arrows_is_none_of_wishes(self):
        for count in range(2, 21):
            net = Net()
            for name in LETTERS[:count]:
                net.put_point(name)
            for one, other in zip(LETTERS[:count], LETTERS[1:count] + LETTERS[0]):
                net.put_arrow(one, other)
            self.assertEqual(self.look_at(net), 2 * (count - 1))

    def test_against_all_small_levels(self):
        # Of the levels of the least length there are some whose points hang on one another by wishes kept just; so no
        # level is greater than the greatest spans and numbers, one for each point but one.
        chance = random.Random(54)
        rings = 0
        for time in range(250):
            count = chance.randint(2, 4)
            net = random_net(chance, count, chance.randint(0, 5), chance.randint(0, 1), chance.randint(0, 2), 2, 2)
            wishes = wishes_by_the_words(net)
            tried = itertools.product(range(2 * (count - 1) + 1), repeat=count)
            least = min((worth_of(wishes, places) for places in tried if keeps_all(wishes, places)), default=None)
            self.assertEqual(self.look_at(net), least)
            rings += least is None
        self.assertGreater(rings, 20)
        self.assertLess(rings, 200)

    def test_great_nets(self):
        chance = random.Random(55)
        self.assertEqual(sum(self.look_at(random_net(chance, 20, 40, 0, 0, 20, 0)) is None for time in range(15)), 0)
        for time in range(15):
            self.look_at(random_net(chance, chance.randint(10, 20), 40, 2, 20, 3, 99))
        self.assertIsNone(self.look_at(random_net(chance, 20, 40, 20, 20, 20, 99)))


def kinds(rows):
    """Each item as a tuple of its class and its fields."""
    return [[(type(item), *vars(item).values()) for item in row] for row in rows]


def rows_by_the_words(net, levels):
    """[5.3], level by level, and the lines step by step."""
    greatest = max((levels[name] for name in net.points()), default=-1)
    rows = []
    for level in range(greatest + 1):
        rows.append([(Own, name, net.half_of(name)) for name in net.points() if levels[name] == level])
        for number, one, other, span, weight in net.arrows():
            top, low = sorted((levels[one], levels[other]))
            if top < level < low:
                rows[-1].append((Small, number, level - top))
    lines = []
    for number, one, other, span, weight in net.arrows():
        top, low = (one, other) if levels[one] < levels[other] else (other, one)
        far = levels[low] - levels[top]
        labels = [top] + [f"{number}.{step}" for step in range(1, far)] + [low]
        for step in range(far):
            ends = (step == 0) + (step == far - 1)
            lines.append((labels[step], labels[step + 1], weight * (8, 2, 1)[ends]))
    return (rows, lines)


class RowsCase(unittest.TestCase):
    def look_at(self, net, levels):
        ahead = (told(net), dict(levels))
        answer = rows_of(net, levels)
        self.assertIs(type(answer), tuple)
        rows, lines = answer
        self.assertEqual((type(rows), type(lines)), (list, list))
        self.assertTrue(all(type(row) is list for row in rows))
        self.assertTrue(all(type(line) is tuple for line in lines))
        self.assertEqual((kinds(rows), lines), rows_by_the_words(net, levels))
        self.look_at_papers(net, rows, lines)
        self.assertEqual((told(net), levels), ahead)
        return answer

    def look_at_papers(self, net, rows, lines):
        """[5.4]: each label in its item's place, the halves by label, the lines without weights."""
        labels = [[row[1] if row[0] is Own else f"{row[1]}.{row[2]}" for row in items] for items in kinds(rows)]
        self.assertEqual(marks_of(rows), labels)
        halves = {}
        for items in kinds(rows):
            for row in items:
                halves[row[1] if row[0] is Own else f"{row[1]}.{row[2]}"] = row[2] if row[0] is Own else 0
        self.assertEqual(halves_of(rows), halves)
        self.assertEqual(pairs_of(lines), [line[:2] for line in lines])
        self.assertTrue(all(type(pair) is tuple for pair in pairs_of(lines)))

    def refused(self, net, levels):
        ahead = (told(net), dict(levels))
        self.assertIs(keeps_net(net, levels), True)
        with self.assertRaises(TooLong) as taken:
            rows_of(net, levels)
        self.assertIs(type(taken.exception), TooLong)
        self.assertEqual((told(net), levels), ahead)


class RowsTest(RowsCase):
    def test_a_net_without_points(self):
        self.assertEqual(rows_of(Net(), {}), ([], []))
        self.assertEqual((marks_of([]), halves_of([]), pairs_of([])), ([], {}, []))

    def test_points_without_arrows(self):
        net = net_of("point b 3", "point a", "point c 50")
        rows, lines = self.look_at(net, {"a": 0, "b": 0, "c": 0})
        self.assertEqual((marks_of(rows), lines), ([["b", "a", "c"]], []))
        rows, lines = self.look_at(net, {"a": 2, "b": 4, "c": 2})
        self.assertEqual(marks_of(rows), [[], [], ["a", "c"], [], ["b"]])
        self.assertEqual(halves_of(rows), {"a": 0, "c": 50, "b": 3})

    def test_arrows_of_one_level_and_of_several(self):
        net = net_of("point a 2", "point b", "point c 5", "arrow a b", "arrow a c 3 4", "arrow c a", "arrow b c")
        rows, lines = self.look_at(net, {"a": 1, "b": 2, "c": 4})
        self.assertEqual(marks_of(rows), [[], ["a"], ["b", "1.1", "2.1"], ["1.2", "2.2", "3.1"], ["c"]])
        self.assertEqual(lines, [
            ("a", "b", 1),
            ("a", "1.1", 8), ("1.1", "1.2", 32), ("1.2", "c", 8),
            ("a", "2.1", 2), ("2.1", "2.2", 8), ("2.2", "c", 2),
            ("b", "3.1", 2), ("3.1", "c", 2),
        ])
        self.assertEqual(halves_of(rows), {"a": 2, "b": 0, "1.1": 0, "2.1": 0, "1.2": 0, "2.2": 0, "3.1": 0, "c": 5})
        self.assertEqual(pairs_of(lines)[:3], [("a", "b"), ("a", "1.1"), ("1.1", "1.2")])

    def test_the_items(self):
        net = net_of("point a 2", "point b", "arrow a b", "arrow b a 3", "arrow a b")
        net.take_arrow(0)
        rows = self.look_at(net, {"a": 4, "b": 0})[0]
        self.assertEqual(kinds(rows), [
            [(Own, "b", 0)], [(Small, 1, 1), (Small, 2, 1)], [(Small, 1, 2), (Small, 2, 2)],
            [(Small, 1, 3), (Small, 2, 3)], [(Own, "a", 2)],
        ])

    def test_a_turned_arrow_of_one_level(self):
        net = net_of("point a", "point b", "arrow a b 1 3", "arrow b a 1 5")
        self.assertEqual(self.look_at(net, {"a": 0, "b": 1})[1], [("a", "b", 3), ("a", "b", 5)])

    def test_points_stand_in_their_own_order_ahead_of_small_ones(self):
        net = net_of("point d", "point a", "point c", "point b", "arrow a b", "arrow a d 2", "arrow a c", "arrow a d")
        levels = {"b": 1, "a": 0, "d": 2, "c": 1}
        self.assertEqual(marks_of(self.look_at(net, levels)[0]), [["a"], ["c", "b", "1.1", "3.1"], ["d"]])

    def test_names_that_are_no_points_do_not_count(self):
        net = net_of("point a", "point b", "arrow a b")
        self.assertEqual(marks_of(self.look_at(net, {"x": 40, "a": 0, "b": 1})[0]), [["a"], ["b"]])
        self.assertEqual(rows_of(Net(), {"x": 40}), ([], []))

    def test_twenty_rows_and_one_more(self):
        net = net_of("point a", "point b")
        self.assertEqual(len(self.look_at(net, {"a": 19, "b": 0})[0]), 20)
        self.assertEqual(len(self.look_at(net, {"a": 19, "b": 19})[0]), 20)
        for level in (20, 21, 10 ** 6, 10 ** 12):
            self.refused(net, {"a": level, "b": 0})
            self.refused(net, {"a": level, "b": level})
        net.put_arrow("a", "b")
        self.assertEqual(len(self.look_at(net, {"a": 0, "b": 19})[1]), 19)
        for level in (20, 10 ** 6, 10 ** 12):
            self.refused(net, {"a": 0, "b": level})

    def test_sixty_small_ones_and_one_more(self):
        net = net_of("point a", "point b", "point c", "arrow a b", "arrow a b", "arrow b a", "arrow a b", "arrow a c")
        levels = {"a": 0, "b": 16, "c": 1}
        self.assertEqual(sum(type(item) is Small for row in self.look_at(net, levels)[0] for item in row), 60)
        self.refused(net, {"a": 0, "b": 16, "c": 2})
        self.refused(net, {"a": 0, "b": 17, "c": 1})
        self.assertEqual(levels, {"a": 0, "b": 16, "c": 1})
        net.take_arrow(2)
        self.look_at(net, {"a": 0, "b": 16, "c": 2})

    def test_twenty_rows_of_one_point_each(self):
        net = Net()
        for name in LETTERS:
            net.put_point(name)
        for one, other in zip(LETTERS, LETTERS[1:]):
            net.put_arrow(other, one)
        levels = levelled(net)[0]
        self.assertEqual(marks_of(self.look_at(net, levels)[0]), [[name] for name in reversed(LETTERS)])

    def test_many_nets(self):
        chance = random.Random(56)
        shown = refused = 0
        for time in range(150):
            net = random_net(chance, chance.randint(2, 12), chance.randint(0, 24), 0, 0, chance.randint(1, 3), 0)
            # Somebody else's levels: further apart than need be, and not from 0 on.
            stretch, top = chance.randint(1, 2), chance.randint(0, 2)
            levels = {name: level * stretch + top for name, level in levelled(net)[0].items()}
            rows = rows_by_the_words(net, levels)[0]
            if len(rows) > 20 or sum(item[0] is Small for row in rows for item in row) > 60:
                self.refused(net, levels)
                refused += 1
            else:
                self.look_at(net, levels)
                shown += 1
        self.assertGreater(shown, 60)
        self.assertGreater(refused, 20)


class PapersTest(unittest.TestCase):
    def test_rows_of_somebody_else(self):
        rows = [[], [Small(3, 2), Own("b", 7)], [], [Own("a", 0), Small(12, 19), Own("c", 50)]]
        self.assertEqual(marks_of(rows), [[], ["3.2", "b"], [], ["a", "12.19", "c"]])
        self.assertEqual(halves_of(rows), {"3.2": 0, "b": 7, "a": 0, "12.19": 0, "c": 50})
        self.assertEqual((marks_of([[], []]), halves_of([[], []])), ([[], []], {}))

    def test_lines_of_somebody_else(self):
        self.assertEqual(pairs_of([("x", "y", 3), ("a", "b", 1), ("x", "y", 3)]), [("x", "y"), ("a", "b"), ("x", "y")])


class AskersOwnTest(unittest.TestCase):
    def asked(self, net, levels):
        rows, lines = rows_of(net, levels)
        return [wishes_of(net), keeps_net(net, levels), length(net, levels), levelled(net), kinds(rows), lines,
                marks_of(rows), halves_of(rows), pairs_of(lines)]

    def net_and_levels(self):
        net = net_of("point a 1", "point b 2", "point c 3", "arrow a b", "arrow b c 2", "arrow c a", "most a c 5")
        return net, {"a": 0, "b": 1, "c": 4}

    def test_the_same_asked_twice(self):
        net, levels = self.net_and_levels()
        self.assertEqual(self.asked(net, levels), self.asked(net, levels))
        self.assertEqual(self.asked(net, levels), self.asked(*self.net_and_levels()))

    def test_what_the_asker_does_to_what_is_told_changes_nothing(self):
        net, levels = self.net_and_levels()
        first = self.asked(net, levels)
        wishes_of(net).clear()
        told_levels, flow = levelled(net)
        told_levels["a"] = 7
        flow.append(1)
        rows, lines = rows_of(net, levels)
        marks, halves, pairs = marks_of(rows), halves_of(rows), pairs_of(lines)
        marks[0].append("x")
        marks.pop()
        halves.clear()
        pairs.reverse()
        self.assertEqual((kinds(rows), lines), (first[4], first[5]))
        rows[0][0].wide = 40
        rows[1].clear()
        rows.pop()
        lines.clear()
        self.assertEqual(self.asked(net, levels), first)

    def test_what_is_done_later_changes_nothing_that_was_told(self):
        net, levels = self.net_and_levels()
        wishes, answer, (rows, lines) = wishes_of(net), levelled(net), rows_of(net, levels)
        marks, halves, pairs = marks_of(rows), halves_of(rows), pairs_of(lines)
        first = self.asked(net, levels)
        levels["c"] = 9
        levels.pop("a")
        net.take_arrow(0)
        net.put_arrow("c", "b", 4)
        net.put_point("d")
        net.put_same("d", "a")
        self.assertEqual([wishes, answer, kinds(rows), lines, marks, halves, pairs], [first[0]] + first[3:])
        rows[0].clear()
        rows.pop()
        lines.pop()
        self.assertEqual([marks, halves, pairs], first[6:])

    def test_rows_and_lines_handed_in_stay(self):
        rows = [[Own("a", 3)], [Small(0, 1), Own("b", 0)]]
        lines = [("a", "0.1", 2), ("a", "b", 1)]
        items = [list(row) for row in rows]
        ahead = kinds(rows)
        marks_of(rows), halves_of(rows), pairs_of(lines)
        self.assertEqual(kinds(rows), ahead)
        self.assertTrue(all(one is other for row, kept in zip(rows, items) for one, other in zip(row, kept)))
        self.assertEqual(lines, [("a", "0.1", 2), ("a", "b", 1)])

    def test_a_ring_told_is_the_askers_own(self):
        net = net_of("point a", "point b", "arrow a b", "same b a")
        found = []
        for time in range(2):
            with self.assertRaises(Ring) as taken:
                levelled(net)
            found.append(list(taken.exception.ring))
            taken.exception.ring.clear()
        self.assertEqual(found[0], found[1])
        self.assertTrue(goes_round([(0, 1, 1, 1), (1, 0, 0, 0), (0, 1, 0, 0)], found[0]))


if __name__ == "__main__":
    unittest.main()
