import inspect
import itertools
import random
import unittest

from layerdraw import tables
from layerdraw.errors import DrawError, TooMany
from layerdraw.orders import crossings
from layerdraw.tables import least_order

LETTERS = "abcdefghijkl"


def cost_by_the_words(fixed, lines, ahead, behind):
    """[6.5]: the crossings that the lines of two marks make, the one standing ahead of the other."""
    total = 0
    for end, mark in lines:
        for other_end, other_mark in lines:
            total += mark == ahead and other_mark == behind and fixed.index(end) > fixed.index(other_end)
    return total


def cost_in_order(fixed, lines, order):
    return sum(cost_by_the_words(fixed, lines, *two) for two in itertools.combinations(order, 2))


def random_question(chance, fixed, free, number):
    rows = [f"x{k}" for k in range(fixed)], list(LETTERS[:free])
    for row in rows:
        chance.shuffle(row)
    lines = [tuple(chance.choice(row) for row in rows) for time in range(number if fixed and free else 0)]
    return *rows, lines


class TablesCase(unittest.TestCase):
    def look_at(self, fixed, free, lines):
        """Checks all that is told of two rows, but for the number being the least, and tells the number."""
        handed = (list(fixed), list(free), list(lines))
        answer = least_order(fixed, free, lines)
        self.assertEqual((type(answer), len(answer)), (tuple, 3))
        number, order, table = answer
        self.assertEqual((type(number), type(order), type(table)), (int, list, dict))
        self.look_at_table(fixed, free, lines, table)
        self.assertEqual(number, table[2 ** len(free) - 1])
        self.assertEqual(sorted(order), sorted(free))
        # The number of crossings of the order told, by pairs of lines; and both ways up by the program itself.
        self.assertEqual(cost_in_order(fixed, lines, order), number)
        self.assertEqual(crossings(fixed, order, lines), number)
        self.assertEqual(crossings(order, fixed, [(low, high) for high, low in lines]), number)
        self.assertEqual((fixed, free, lines), handed)
        return number

    def look_at_table(self, fixed, free, lines, table):
        """Each entry against the least over its last marks."""
        self.assertEqual(sorted(table), list(range(2 ** len(free))))
        self.assertTrue(all(type(number) is int for row in table.items() for number in row))
        costs = {two: cost_by_the_words(fixed, lines, *two) for two in itertools.permutations(free, 2)}
        self.assertEqual(table[0], 0)
        for group in range(1, 2 ** len(free)):
            marks = [mark for h, mark in enumerate(free) if group & 1 << h]
            tried = []
            for h, last in enumerate(free):
                if last in marks:
                    tried.append(table[group - 2 ** h] + sum(costs[mark, last] for mark in marks if mark != last))
            self.assertEqual(table[group], min(tried), marks)

    def least_of_all_orders(self, fixed, free, lines):
        return min(cost_in_order(fixed, lines, order) for order in itertools.permutations(free))


class LeastOrderTest(TablesCase):
    def test_the_name_and_arguments(self):
        self.assertEqual(str(inspect.signature(tables.least_order)), "(fixed, free, lines)")

    def test_rows_without_marks(self):
        self.assertEqual(least_order([], [], []), (0, [], {0: 0}))
        self.assertEqual(least_order(["x", "y"], [], []), (0, [], {0: 0}))
        self.assertEqual(self.look_at([], ["a", "b", "c"], []), 0)
        self.assertEqual(least_order([], ["a", "b"], [])[2], {0: 0, 1: 0, 2: 0, 3: 0})

    def test_one_mark(self):
        self.assertEqual(least_order([], ["a"], []), (0, ["a"], {0: 0, 1: 0}))
        self.assertEqual(least_order(["x", "y"], ["a"], [("y", "a"), ("x", "a"), ("y", "a")]), (0, ["a"], {0: 0, 1: 0}))

    def test_two_marks(self):
        lines = [("x", "b"), ("y", "a")]
        self.assertEqual(least_order(["x", "y"], ["a", "b"], lines), (0, ["b", "a"], {0: 0, 1: 0, 2: 0, 3: 0}))
        self.assertEqual(least_order(["y", "x"], ["a", "b"], lines), (0, ["a", "b"], {0: 0, 1: 0, 2: 0, 3: 0}))
        every = [(end, mark) for end in "xyz" for mark in "ab"]
        self.assertEqual(least_order(["x", "y", "z"], ["a", "b"], every)[::2], (3, {0: 0, 1: 0, 2: 0, 3: 3}))

    def test_the_bits_stand_for_the_places(self):
        # Only b and c cross whichever way they stand, and c is the mark 0.
        lines = [("x", "b"), ("y", "b"), ("x", "c"), ("y", "c"), ("x", "a")]
        number, order, table = least_order(["x", "y"], ["c", "a", "b"], lines)
        self.assertEqual((number, order[0]), (1, "a"))
        self.assertEqual(table, {0: 0, 1: 0, 2: 0, 3: 0, 4: 0, 5: 1, 6: 0, 7: 1})

    def test_lines_that_stand_several_times(self):
        once = [("x", "a"), ("y", "b"), ("y", "a"), ("x", "b")]
        self.assertEqual(self.look_at(["x", "y"], ["a", "b"], once), 1)
        self.assertEqual(self.look_at(["x", "y"], ["a", "b"], once * 3), 9)
        # With x ahead of y, a costs 1 ahead of b, and b costs 4 ahead of a.
        lines = [("x", "a"), ("y", "b")] * 2 + [("x", "b"), ("y", "a")]
        self.assertEqual(least_order(["x", "y"], ["b", "a"], lines)[:2], (1, ["a", "b"]))
        self.assertEqual(least_order(["y", "x"], ["a", "b"], lines)[:2], (1, ["b", "a"]))
        self.look_at(["x", "y"], ["b", "a"], lines)

    def test_the_fixed_row_stays_as_it_is(self):
        lines = [("x", "a"), ("y", "b"), ("z", "c"), ("z", "a")]
        for fixed in itertools.permutations("xyz"):
            fixed = list(fixed)
            number = self.look_at(fixed, ["a", "b", "c"], lines)
            self.assertEqual(number, self.least_of_all_orders(fixed, ["a", "b", "c"], lines))

    def test_marks_without_lines(self):
        self.assertEqual(self.look_at(["x", "y"], ["a", "b", "c", "d"], [("x", "d"), ("y", "a")]), 0)
        self.assertEqual(self.look_at(["x", "y", "z"], list("abcdefgh"), []), 0)

    def test_eight_marks(self):
        fixed = list("stuvwxyz")
        free = list("abcdefgh")
        straight = list(zip(fixed, free))
        self.assertEqual(least_order(fixed, free, straight)[:2], (0, free))
        self.assertEqual(least_order(fixed, free[::-1], straight)[:2], (0, free))
        every = [(end, mark) for end in fixed for mark in free]
        self.assertEqual(self.look_at(fixed, free, every), 28 * 28)
        self.assertEqual(len(least_order(fixed, free, every)[2]), 256)

    def test_eight_marks_against_all_orders(self):
        chance = random.Random(81)
        for lines in (9, 30):
            question = random_question(chance, 6, 8, lines)
            costs = {two: cost_by_the_words(question[0], question[2], *two)
                     for two in itertools.permutations(question[1], 2)}
            least = min(sum(costs[two] for two in itertools.combinations(order, 2))
                        for order in itertools.permutations(question[1]))
            self.assertEqual(self.look_at(*question), least)

    def test_against_all_orders(self):
        chance = random.Random(82)
        unlike = 0
        for time in range(150):
            free = chance.choice((0, 1, 2, 3, 4, 4, 5, 5))
            question = random_question(chance, chance.randint(0, 6), free, chance.randint(0, 14))
            number = self.look_at(*question)
            self.assertEqual(number, self.least_of_all_orders(*question))
            unlike += number != cost_in_order(question[0], question[2], question[1])
        self.assertGreater(unlike, 40)

    def test_the_free_row_above_and_below(self):
        chance = random.Random(83)
        for time in range(40):
            fixed, free, lines = random_question(chance, 5, 5, 12)
            number, order, table = least_order(fixed, free, lines)
            about = [(low, high) for high, low in lines]
            below = [crossings(fixed, list(tried), lines) for tried in itertools.permutations(free)]
            above = [crossings(list(tried), fixed, about) for tried in itertools.permutations(free)]
            self.assertEqual((min(below), min(above)), (number, number))
            self.assertEqual((crossings(fixed, order, lines), crossings(order, fixed, about)), (number, number))

    def test_a_long_fixed_row_and_many_lines(self):
        chance = random.Random(84)
        for time in range(5):
            self.look_at(*random_question(chance, 60, 8, 200))


class TooManyTest(TablesCase):
    def refused(self, fixed, free, lines):
        handed = (list(fixed), list(free), list(lines))
        with self.assertRaises(TooMany) as taken:
            least_order(fixed, free, lines)
        self.assertIs(type(taken.exception), TooMany)
        self.assertTrue(isinstance(taken.exception, DrawError))
        self.assertEqual((fixed, free, lines), handed)

    def test_nine_marks(self):
        self.refused([], list(LETTERS[:9]), [])
        self.refused(["x"], list(LETTERS[:9]), [("x", "a")])
        self.refused(list("xyz"), list(LETTERS[:12]), [("x", "a"), ("z", "c")])

    def test_nine_marks_in_the_fixed_row(self):
        lines = [(end, "a") for end in LETTERS[3:12]] + [("d", "b"), ("f", "c")]
        self.assertEqual(self.look_at(list(LETTERS[3:12]), list("abc"), lines), self.least_of_all_orders(
            list(LETTERS[3:12]), list("abc"), lines))


class AskersOwnTest(unittest.TestCase):
    def handed(self):
        return list("xyz"), list("abcd"), [("x", "d"), ("y", "a"), ("z", "b"), ("x", "b"), ("y", "c"), ("z", "c")]

    def test_the_same_asked_twice(self):
        rows = self.handed()
        self.assertEqual(least_order(*rows), least_order(*rows))
        self.assertEqual(least_order(*rows), least_order(*self.handed()))
        self.assertEqual(rows, self.handed())

    def test_what_the_asker_does_to_what_is_told_changes_nothing(self):
        rows = self.handed()
        first = least_order(*rows)
        number, order, table = least_order(*rows)
        order.clear()
        table[3] = 99
        table.pop(0)
        self.assertEqual(rows, self.handed())
        self.assertEqual(least_order(*rows), first)
        # In a row that needs no other order, too, the order is another list than the row.
        free = ["a", "b"]
        least_order(["x"], free, [])[1].append("c")
        self.assertEqual(free, ["a", "b"])

    def test_what_is_handed_in_changed_behind_the_call(self):
        fixed, free, lines = self.handed()
        told = least_order(fixed, free, lines)
        fixed.reverse()
        free.pop()
        lines.clear()
        self.assertEqual(told, least_order(*self.handed()))


if __name__ == "__main__":
    unittest.main()
