import inspect
import itertools
import random
import unittest

from checks import adds_up, bound_of, faults
from layerdraw import sideways as module
from layerdraw.errors import TooMany
from layerdraw.items import Own, Small
from layerdraw.levels import halves_of, levelled, marks_of, pairs_of, rows_of
from layerdraw.orders import settled, swept
from layerdraw.papers import bound, fits
from layerdraw.reading import read_net
from layerdraw.sideways import asked, cost_of, heavy, keeps_gap, sideways

ROWS = [["a", "b"], [], ["c"], ["d", "e", "f"]]
HALVES = {"a": 1, "b": 20, "c": 30, "d": 4, "e": 0, "f": 50}


def keeps_by_the_words(rows, halves, gap, places):
    """[7.2], neighbour by neighbour."""
    for row in rows:
        for k in range(len(row) - 1):
            if places[row[k + 1]] < places[row[k]] + halves[row[k]] + halves[row[k + 1]] + gap:
                return False
    return True


def cost_by_the_words(lines, places):
    total = 0
    for one, other, weight in lines:
        low, high = sorted((places[one], places[other]))
        total += weight * (high - low)
    return total


def asked_by_the_words(rows, halves, lines, gap):
    """[7.3], wish by wish."""
    marks = [mark for row in rows for mark in row]
    wishes = []
    for row in rows:
        for left, right in itertools.pairwise(row):
            wishes.append((marks.index(left), marks.index(right), halves[left] + halves[right] + gap, 0))
    for k, (one, other, weight) in enumerate(lines):
        for end in (one, other):
            wishes.append((len(marks) + k, marks.index(end), 0, weight))
    return (len(marks) + len(lines), wishes)


def random_question(chance, widths, number, half, weight):
    """Rows of so many marks each, with halves and lines of weights up to the told ones, between any two marks."""
    rows = [[f"{chr(97 + row)}{k}" for k in range(width)] for row, width in enumerate(widths)]
    for row in rows:
        chance.shuffle(row)
    marks = [mark for row in rows for mark in row]
    halves = {mark: chance.randint(0, half) for mark in chance.sample(marks, len(marks))}
    lines = [(*chance.sample(marks, 2), chance.randint(1, weight)) for time in range(number if len(marks) > 1 else 0)]
    return rows, halves, lines


class GapTest(unittest.TestCase):
    def test_the_names_and_arguments(self):
        for name, parameters in (("keeps_gap", "(rows, halves, gap, places)"), ("cost_of", "(lines, places)"),
                                 ("asked", "(rows, halves, lines, gap)"), ("sideways", "(rows, halves, lines, gap)"),
                                 ("heavy", "(one, other, weight)")):
            self.assertEqual(str(inspect.signature(getattr(module, name))), parameters)

    def test_nothing_to_keep(self):
        self.assertIs(keeps_gap([], {}, 50, {}), True)
        self.assertIs(keeps_gap([[], []], {}, 50, {}), True)
        self.assertIs(keeps_gap([["a"], ["b"]], {"a": 50, "b": 50}, 50, {"a": 7, "b": 0}), True)

    def test_missed_by_one(self):
        for half, other, gap in ((0, 0, 0), (0, 0, 50), (3, 0, 0), (0, 4, 0), (50, 50, 50), (1, 2, 4)):
            halves = {"a": half, "b": other}
            just = half + other + gap
            for left in (0, 13, -5):
                self.assertIs(keeps_gap([["a", "b"]], halves, gap, {"a": left, "b": left + just}), True)
                self.assertIs(keeps_gap([["a", "b"]], halves, gap, {"b": left + just + 1, "a": left}), True)
                self.assertIs(keeps_gap([["a", "b"]], halves, gap, {"a": left, "b": left + just - 1}), False)

    def test_the_other_order(self):
        self.assertIs(keeps_gap([["a", "b"]], {"a": 0, "b": 0}, 1, {"a": 5, "b": 0}), False)
        self.assertIs(keeps_gap([["b", "a"]], {"a": 0, "b": 0}, 1, {"a": 5, "b": 0}), True)

    def test_each_two_neighbours_count(self):
        places = {"a": 0, "b": 31, "c": 0, "d": 0, "e": 14, "f": 74}
        self.assertIs(keeps_gap(ROWS, HALVES, 10, places), True)
        for mark in ("b", "e", "f"):
            self.assertIs(keeps_gap(ROWS, HALVES, 10, {**places, mark: places[mark] - 1}), False)
        for mark in ("a", "d"):
            self.assertIs(keeps_gap(ROWS, HALVES, 10, {**places, mark: 1}), False)
        self.assertIs(keeps_gap(ROWS, HALVES, 11, places), False)
        self.assertIs(keeps_gap(ROWS, {**HALVES, "e": 1}, 10, places), False)

    def test_many_places(self):
        chance = random.Random(71)
        kept = 0
        for time in range(300):
            rows, halves, lines = random_question(chance, [chance.randint(0, 3) for row in range(3)], 3, 2, 9)
            places = {}
            for row in rows:
                places.update(zip(row, sorted(chance.sample(range(20), len(row)))))
            keeps = keeps_by_the_words(rows, halves, 2, places)
            self.assertIs(keeps_gap(rows, halves, 2, places), keeps)
            self.assertEqual(cost_of(lines, places), cost_by_the_words(lines, places))
            kept += keeps
        self.assertGreater(kept, 50)
        self.assertLess(kept, 250)


class CostTest(unittest.TestCase):
    def test_no_line(self):
        self.assertEqual(cost_of([], {}), 0)
        self.assertEqual(cost_of([], {"a": 4}), 0)

    def test_lines(self):
        places = {"a": 3, "b": 10, "c": -2}
        self.assertEqual(cost_of([("a", "b", 5)], places), 35)
        self.assertEqual(cost_of([("b", "a", 5)], places), 35)
        self.assertEqual(cost_of([("a", "b", 5), ("c", "a", 2), ("a", "b", 1)], places), 35 + 10 + 7)
        self.assertEqual(cost_of([("a", "b", 10 ** 7)], {"a": 9, "b": 9}), 0)
        self.assertEqual(cost_of([("a", "b", 10 ** 7)], {"a": 0, "b": 10 ** 9}), 10 ** 16)


class AskedCase(unittest.TestCase):
    def look_at(self, rows, halves, lines, gap):
        """Checks all that is told of the rows and lines, and tells what they cost."""
        kept = ([list(row) for row in rows], dict(halves), list(lines))
        question = asked(rows, halves, lines, gap)
        self.assertEqual(question, asked_by_the_words(rows, halves, lines, gap))
        self.assertEqual((type(question), type(question[1])), (tuple, list))
        self.assertTrue(all(type(wish) is tuple for wish in question[1]))
        answer = sideways(rows, halves, lines, gap)
        self.assertIs(type(answer), tuple)
        places, flow = answer
        self.assertEqual((type(places), type(flow)), (dict, list))
        self.look_at_places(rows, halves, lines, gap, places, flow)
        self.assertEqual((rows, halves, lines), kept)
        return cost_of(lines, places)

    def look_at_places(self, rows, halves, lines, gap, places, flow):
        marks = [mark for row in rows for mark in row]
        self.assertEqual(sorted(places), sorted(marks))
        self.assertTrue(all(type(place) is int for place in places.values()))
        self.assertTrue(keeps_by_the_words(rows, halves, gap, places))
        self.assertIs(keeps_gap(rows, halves, gap, places), True)
        count, wishes = asked_by_the_words(rows, halves, lines, gap)
        # A helper stands best at the left one of its line's ends.
        helpers = [min(places[one], places[other]) for one, other, weight in lines]
        self.assertEqual(faults(count, wishes, [places[mark] for mark in marks] + helpers, flow), [])
        self.assertTrue(adds_up(count, wishes, flow))
        self.assertEqual(bound_of(wishes, flow), cost_by_the_words(lines, places))
        self.assertEqual(bound(count, wishes, flow), cost_of(lines, places))


class AskedTest(AskedCase):
    def test_nothing_to_ask(self):
        self.assertEqual(asked([], {}, [], 3), (0, []))
        self.assertEqual(sideways([], {}, [], 3), ({}, []))
        self.assertEqual(asked([[], []], {}, [], 3), (0, []))
        self.assertEqual(sideways([[], []], {}, [], 3), ({}, []))
        self.assertEqual(asked([["a"], [], ["b"]], {"a": 1, "b": 2}, [], 3), (2, []))
        self.assertEqual(sideways([["a"], [], ["b"]], {"a": 1, "b": 2}, [], 3), ({"a": 0, "b": 0}, []))

    def test_wish_by_wish(self):
        lines = [("f", "a", 7), ("d", "e", 10 ** 7), ("f", "a", 7), ("c", "d", 1)]
        self.assertEqual(asked(ROWS, HALVES, lines, 0), (10, [
            (0, 1, 21, 0), (3, 4, 4, 0), (4, 5, 50, 0),
            (6, 5, 0, 7), (6, 0, 0, 7), (7, 3, 0, 10 ** 7), (7, 4, 0, 10 ** 7),
            (8, 5, 0, 7), (8, 0, 0, 7), (9, 2, 0, 1), (9, 3, 0, 1),
        ]))
        self.assertEqual(asked(ROWS, HALVES, [], 50), (6, [(0, 1, 71, 0), (3, 4, 54, 0), (4, 5, 100, 0)]))

    def test_one_row(self):
        self.assertEqual(sideways([["a", "b", "c"]], {"a": 1, "b": 2, "c": 3}, [("a", "b", 1), ("b", "c", 1)], 4)[0],
                         {"a": 0, "b": 7, "c": 16})
        self.assertEqual(self.look_at([["a", "b", "c"]], {"a": 1, "b": 2, "c": 3}, [("c", "a", 5)], 4), 80)

    def test_one_mark_above_another(self):
        self.assertEqual(sideways([["a"], ["b"]], {"a": 50, "b": 0}, [("a", "b", 9)], 50)[0], {"a": 0, "b": 0})
        self.assertEqual(self.look_at([["a"], ["b"]], {"a": 50, "b": 0}, [("a", "b", 9), ("b", "a", 1)], 50), 0)

    def test_a_heavy_line_stands_upright(self):
        rows, halves = [["a"], ["b", "c"]], {"a": 0, "b": 1, "c": 2}
        for heavier, lighter in (("b", "c"), ("c", "b")):
            lines = [("a", lighter, 2), ("a", heavier, 3)]
            places = sideways(rows, halves, lines, 5)[0]
            self.assertEqual(places["a"], places[heavier])
            self.assertEqual(self.look_at(rows, halves, lines, 5), 16)

    def test_rows_without_marks_and_rows_that_are_no_neighbours(self):
        rows = [[], ["a"], [], ["b", "c"], [], ["d", "e"], []]
        halves = {"a": 0, "b": 1, "c": 1, "d": 3, "e": 3}
        self.assertEqual(self.look_at(rows, halves, [("e", "b", 1), ("d", "c", 1), ("a", "e", 1), ("d", "a", 1)], 2), 20)

    def test_alike_lines(self):
        rows, halves = [["a", "b"], ["c"]], {"a": 0, "b": 0, "c": 0}
        self.assertEqual(self.look_at(rows, halves, [("a", "c", 1), ("a", "c", 1), ("b", "c", 1), ("c", "a", 1)], 10), 10)
        self.assertEqual(sideways(rows, halves, [("a", "c", 1)] * 3 + [("b", "c", 1)], 10)[0], {"a": 0, "b": 10, "c": 0})

    def test_gaps(self):
        for gap in (0, 1, 50):
            self.assertEqual(self.look_at(ROWS, HALVES, [("a", "b", 1), ("d", "f", 1)], gap), 21 + 54 + 3 * gap)
        rows = [["a", "b"], ["c", "d"]]
        halves = dict.fromkeys("abcd", 0)
        self.assertEqual(sideways(rows, halves, [("a", "d", 1), ("b", "c", 1)], 0)[0], dict.fromkeys("abcd", 0))
        self.assertEqual(self.look_at(rows, halves, [("a", "d", 1), ("b", "c", 1)], 50), 100)

    def test_each_part_is_from_nought_on(self):
        rows = [["a", "b"], ["c", "d"], ["e"], ["f"]]
        halves = {"a": 1, "b": 2, "c": 3, "d": 4, "e": 5, "f": 6}
        lines = [("b", "e", 1), ("d", "f", 1)]
        self.assertEqual(sideways(rows, halves, lines, 10)[0], {"a": 0, "b": 13, "e": 13, "c": 0, "d": 17, "f": 17})
        self.look_at(rows, halves, lines, 10)

    def test_against_all_small_places(self):
        # There are places of the least cost at which the marks hang on one another by a gap kept just or by a line that
        # stands upright; so none is further right than all halves and gaps of the rows together.
        chance = random.Random(72)
        for time in range(120):
            widths = chance.choice(([1, 1], [2, 1], [1, 2, 1], [2, 2], [3, 1], [1, 0, 1, 1]))
            rows, halves, lines = random_question(chance, widths, chance.randint(0, 4), 1, 5)
            gap = chance.randint(0, 2)
            marks = [mark for row in rows for mark in row]
            room = sum(least for one, other, least, weight in asked_by_the_words(rows, halves, [], gap)[1])
            least = None
            for tried in itertools.product(range(room + 1), repeat=len(marks)):
                places = dict(zip(marks, tried))
                if keeps_by_the_words(rows, halves, gap, places):
                    cost = cost_by_the_words(lines, places)
                    least = cost if least is None else min(least, cost)
            self.assertEqual(self.look_at(rows, halves, lines, gap), least)

    def test_many_rows(self):
        chance = random.Random(73)
        for time in range(80):
            widths = [chance.randint(0, 6) for row in range(chance.randint(0, 6))]
            weight = chance.choice((1, 9, 10 ** 7))
            rows, halves, lines = random_question(chance, widths, chance.randint(0, 40), 50, weight)
            self.look_at(rows, halves, lines, chance.choice((0, 1, 30, 50)))

    def test_a_flow_bounds_what_any_places_cost(self):
        chance = random.Random(74)
        for time in range(60):
            rows, halves, lines = random_question(chance, [3, 2, 3], 8, 9, 9)
            count, wishes = asked(rows, halves, lines, 4)
            flow = sideways(rows, halves, lines, 4)[1]
            places = {}
            for row in rows:
                last = chance.randint(-40, 40)
                for mark in row:
                    last += chance.randint(18 + 4, 50)
                    places[mark] = last
            self.assertIs(keeps_gap(rows, halves, 4, places), True)
            self.assertGreaterEqual(cost_of(lines, places), bound(count, wishes, flow))
            marks = [mark for row in rows for mark in row]
            helpers = [min(places[one], places[other]) for one, other, weight in lines]
            self.assertIs(fits(count, wishes, [places[mark] for mark in marks] + helpers), True)

    def test_a_net_from_levels_to_places(self):
        net = read_net("point a 3\npoint b\npoint c 5\npoint d\narrow a b\narrow b c 1 4\narrow c a 3\narrow a d 4\narrow b d")
        rows, lines = rows_of(net, levelled(net)[0])
        marks = settled(swept(marks_of(rows), pairs_of(lines)), pairs_of(lines))[0]
        self.look_at(marks, halves_of(rows), lines, 6)


class TooManyTest(AskedCase):
    def refused(self, rows, halves, lines, gap):
        kept = ([list(row) for row in rows], dict(halves), list(lines))
        for question in (asked, sideways):
            with self.assertRaises(TooMany) as taken:
                question(rows, halves, lines, gap)
            self.assertIs(type(taken.exception), TooMany)
        self.assertEqual((rows, halves, lines), kept)

    def test_forty_marks_and_one_more(self):
        chance = random.Random(75)
        for widths in ([40], [20, 20], [1] * 40, [13, 0, 13, 14]):
            rows, halves, lines = random_question(chance, widths, 7, 50, 10 ** 7)
            self.look_at(rows, halves, lines, 50)
            halves["more"] = 0
            self.refused(rows + [["more"]], halves, lines, 50)
            self.refused(rows[:-1] + [rows[-1] + ["more"]], halves, [], 50)

    def test_forty_lines_and_one_more(self):
        chance = random.Random(76)
        rows, halves, lines = random_question(chance, [5, 5, 5], 40, 50, 10 ** 7)
        self.look_at(rows, halves, lines, 1)
        self.refused(rows, halves, lines + [lines[0]], 1)
        self.refused(rows, halves, lines + [lines[0]] * 60, 1)
        self.look_at([["a"], ["b"]], {"a": 0, "b": 0}, [("a", "b", 1)] * 40, 0)
        self.refused([["a"], ["b"]], {"a": 0, "b": 0}, [("a", "b", 1)] * 41, 0)

    def test_forty_of_both_and_more_of_both(self):
        chance = random.Random(77)
        for widths in ([10, 10, 10, 10], [40], [2] * 20):
            for weight in (1, 10 ** 7):
                rows, halves, lines = random_question(chance, widths, 40, 50, weight)
                self.look_at(rows, halves, lines, 50)
        halves["more"] = 0
        self.refused(rows + [["more"]], halves, lines, 50)
        self.refused(rows + [["more"]], halves, lines + lines[:1], 50)


class HeavyTest(unittest.TestCase):
    def test_the_three_cases(self):
        own, other, small, smaller = Own("a", 3), Own("b", 0), Small(0, 1), Small(7, 2)
        for weight in (1, 3, 10 ** 6):
            self.assertEqual(heavy(own, other, weight), weight)
            self.assertEqual(heavy(other, own, weight), weight)
            self.assertEqual(heavy(own, small, weight), 2 * weight)
            self.assertEqual(heavy(small, own, weight), 2 * weight)
            self.assertEqual(heavy(small, smaller, weight), 8 * weight)
            self.assertEqual(heavy(smaller, small, weight), 8 * weight)

    def test_a_name_of_an_own_one_counts_for_nothing(self):
        self.assertEqual(heavy(Own("small", 0), Own("b", 50), 5), 5)
        self.assertEqual(heavy(Small(0, 1), Own("b", 0), 5), 10)


class AskersOwnTest(unittest.TestCase):
    LINES = [("a", "f", 3), ("c", "b", 1), ("d", "c", 2)]

    def handed(self):
        return [list(row) for row in ROWS], dict(HALVES), list(self.LINES)

    def told(self, rows, halves, lines):
        places, flow = sideways(rows, halves, lines, 5)
        return [asked(rows, halves, lines, 5), places, flow, keeps_gap(rows, halves, 5, places), cost_of(lines, places)]

    def test_the_same_asked_twice(self):
        rows, halves, lines = self.handed()
        self.assertEqual(self.told(rows, halves, lines), self.told(rows, halves, lines))
        self.assertEqual(self.told(rows, halves, lines), self.told(*self.handed()))
        self.assertEqual((rows, halves, lines), self.handed())

    def test_places_handed_in_stay(self):
        places = {"a": 0, "b": 31, "c": 0, "d": 0, "e": 14, "f": 74}
        kept = dict(places)
        keeps_gap(ROWS, HALVES, 5, places)
        cost_of(self.LINES, places)
        self.assertEqual(places, kept)
        items = (Own("a", 3), Small(4, 2))
        heavy(*items, 5)
        self.assertEqual([vars(item) for item in items], [{"name": "a", "wide": 3}, {"arrow": 4, "step": 2}])

    def test_what_the_asker_does_to_what_is_told_changes_nothing(self):
        rows, halves, lines = self.handed()
        first = self.told(rows, halves, lines)
        asked(rows, halves, lines, 5)[1].clear()
        places, flow = sideways(rows, halves, lines, 5)
        places["a"] = 99
        places.pop("b")
        flow.clear()
        self.assertEqual((rows, halves, lines), self.handed())
        self.assertEqual(self.told(rows, halves, lines), first)

    def test_what_is_handed_in_changed_behind_the_call(self):
        rows, halves, lines = self.handed()
        told = self.told(rows, halves, lines)
        rows[0].reverse()
        rows.pop()
        halves["a"] = 50
        halves.pop("b")
        lines.clear()
        self.assertEqual(told, self.told(*self.handed()))


if __name__ == "__main__":
    unittest.main()
