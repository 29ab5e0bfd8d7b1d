import fractions
import inspect
import itertools
import random
import unittest

from layerdraw import orders
from layerdraw.orders import all_crossings, crossings, settled, swept


def crossings_by_pairs(upper, lower, lines):
    """[6.2], pair by pair."""
    total = 0
    for (high, low), (other_high, other_low) in itertools.combinations(lines, 2):
        ahead = upper.index(high) - upper.index(other_high)
        behind = lower.index(low) - lower.index(other_low)
        total += ahead < 0 < behind or behind < 0 < ahead
    return total


def between(upper, lower, lines):
    return [(high, low) for high, low in lines if high in upper and low in lower]


def all_by_pairs(rows, lines):
    return sum(crossings_by_pairs(upper, lower, between(upper, lower, lines)) for upper, lower in zip(rows, rows[1:]))


def swept_down(rows, lines):
    """[6.3], row by row; the lines are tuples of a mark in a row ahead and one in the row just behind."""
    rows = [list(row) for row in rows]
    for k in range(1, len(rows)):
        middles = {}
        for mark in rows[k]:
            ends = [rows[k - 1].index(high) for high, low in lines if low == mark]
            middles[mark] = fractions.Fraction(sum(ends), len(ends)) if ends else rows[k].index(mark)
        stood = list(rows[k])
        rows[k] = sorted(stood, key=lambda mark: (middles[mark], stood.index(mark)))
    return rows


def each_sweep(rows, lines, often):
    """The rows handed in and those behind each sweep."""
    found = [[list(row) for row in rows]]
    for time in range(often):
        if time % 2 == 0:
            found.append(swept_down(found[-1], lines))
        else:
            found.append(swept_down(found[-1][::-1], [(low, high) for high, low in lines])[::-1])
    return found


def first_of_the_least(found, lines):
    numbers = [all_by_pairs(rows, lines) for rows in found]
    return found[numbers.index(min(numbers))]


def changed(rows, row, k):
    rows = [list(marks) for marks in rows]
    rows[row][k:k + 2] = [rows[row][k + 1], rows[row][k]]
    return rows


def worth_changing(rows, lines):
    """[6.4]: all neighbours that are worth changing, as tuples (row, k, by how much), upmost and leftmost first."""
    found = []
    now = all_by_pairs(rows, lines)
    for row, marks in enumerate(rows):
        for k in range(len(marks) - 1):
            fewer = now - all_by_pairs(changed(rows, row, k), lines)
            if fewer > 0:
                found.append((row, k, fewer))
    return found


def random_rows(chance, widths, number):
    """Rows of so many marks each, in a mixed order, and so many lines, where there can be some."""
    rows = [[f"{chr(97 + row)}{k}" for k in range(width)] for row, width in enumerate(widths)]
    for row in rows:
        chance.shuffle(row)
    both = [k for k in range(len(rows) - 1) if rows[k] and rows[k + 1]]
    lines = []
    for time in range(number if both else 0):
        k = chance.choice(both)
        lines.append((chance.choice(rows[k]), chance.choice(rows[k + 1])))
    return rows, lines


class OrdersCase(unittest.TestCase):
    def look_at_rows(self, told, rows):
        self.assertIs(type(told), list)
        self.assertTrue(all(type(row) is list for row in told))
        self.assertEqual([sorted(row) for row in told], [sorted(row) for row in rows])


class CrossingsTest(OrdersCase):
    def test_the_names_and_arguments(self):
        for name, parameters in (("crossings", "(upper, lower, lines)"), ("all_crossings", "(rows, lines)"),
                                 ("swept", "(rows, lines, often=4)"), ("settled", "(rows, lines)")):
            self.assertEqual(str(inspect.signature(getattr(orders, name))), parameters)

    def test_nothing_to_cross(self):
        self.assertEqual(crossings([], [], []), 0)
        self.assertEqual(crossings(["a"], [], []), 0)
        self.assertEqual(crossings([], ["a", "b"], []), 0)
        self.assertEqual(crossings(["a", "b"], ["c", "d"], []), 0)
        self.assertEqual(crossings(["a"], ["c"], [("a", "c")]), 0)

    def test_two_lines(self):
        self.assertEqual(crossings(["a", "b"], ["c", "d"], [("a", "c"), ("b", "d")]), 0)
        self.assertEqual(crossings(["a", "b"], ["c", "d"], [("a", "d"), ("b", "c")]), 1)
        self.assertEqual(crossings(["a", "b"], ["c", "d"], [("b", "c"), ("a", "d")]), 1)
        self.assertEqual(crossings(["b", "a"], ["c", "d"], [("b", "c"), ("a", "d")]), 0)

    def test_lines_that_share_an_end(self):
        self.assertEqual(crossings(["a", "b"], ["c", "d"], [("a", "c"), ("a", "d")]), 0)
        self.assertEqual(crossings(["a", "b"], ["c", "d"], [("a", "d"), ("b", "d")]), 0)
        self.assertEqual(crossings(["a", "b"], ["c", "d"], [("a", "c"), ("a", "d"), ("b", "c"), ("b", "d")]), 1)

    def test_lines_that_stand_several_times(self):
        self.assertEqual(crossings(["a", "b"], ["c", "d"], [("a", "d"), ("a", "d")]), 0)
        self.assertEqual(crossings(["a", "b"], ["c", "d"], [("a", "d"), ("b", "c"), ("a", "d")]), 2)
        self.assertEqual(crossings(["a", "b"], ["c", "d"], [("a", "d"), ("b", "c")] * 3), 9)

    def test_all_rows(self):
        rows = [["a", "b"], ["c", "d"], ["e", "f"]]
        lines = [("a", "d"), ("c", "f"), ("b", "c"), ("d", "e")]
        self.assertEqual(all_crossings(rows, lines), 2)
        self.assertEqual(all_crossings(rows, lines[:3]), 1)
        self.assertEqual(all_crossings(rows, lines[:2]), 0)
        self.assertEqual(all_crossings([["a", "b"], ["d", "c"], ["e", "f"]], lines), 0)

    def test_rows_without_marks(self):
        self.assertEqual(all_crossings([], []), 0)
        self.assertEqual(all_crossings([[]], []), 0)
        self.assertEqual(all_crossings([["a", "b"]], []), 0)
        self.assertEqual(all_crossings([[], ["a", "b"], ["c", "d"], [], ["e"]], [("a", "d"), ("b", "c")]), 1)

    def test_twenty_rows(self):
        rows = [[f"{row}x", f"{row}y"] for row in range(20)]
        lines = [(f"{row}x", f"{row + 1}y") for row in range(19)] + [(f"{row}y", f"{row + 1}x") for row in range(19)]
        self.assertEqual(all_crossings(rows, lines), 19)
        self.assertEqual(all_crossings(rows[:1] + [row[::-1] for row in rows[1:]], lines), 18)

    def test_against_all_pairs(self):
        chance = random.Random(61)
        for time in range(150):
            rows, lines = random_rows(chance, [chance.randint(0, 5), chance.randint(0, 5)], chance.randint(0, 12))
            self.assertEqual(crossings(*rows, lines), crossings_by_pairs(*rows, lines))
        for time in range(100):
            widths = [chance.randint(0, 5) for row in range(chance.randint(0, 6))]
            rows, lines = random_rows(chance, widths, chance.randint(0, 30))
            self.assertEqual(all_crossings(rows, lines), all_by_pairs(rows, lines))

    def test_two_rows_of_sixty_marks(self):
        rows, lines = random_rows(random.Random(62), [60, 60], 200)
        self.assertEqual(crossings(*rows, lines), crossings_by_pairs(*rows, lines))
        rows = [[f"u{k}" for k in range(60)], [f"v{k}" for k in range(60)]]
        self.assertEqual(crossings(*rows, [(f"u{k}", f"v{59 - k}") for k in range(60)]), 60 * 59 // 2)


class SweptTest(OrdersCase):
    def look_at(self, rows, lines, often):
        kept = ([list(row) for row in rows], list(lines))
        told = swept(rows, lines, often)
        self.look_at_rows(told, rows)
        self.assertEqual(told, first_of_the_least(each_sweep(rows, lines, often), lines))
        self.assertEqual((rows, lines), kept)
        return told

    def test_nothing_to_sweep(self):
        for rows in ([], [[]], [["b", "a"]], [[], []], [["a"], [], ["c", "b"]]):
            for often in (0, 1, 4, 20):
                self.assertEqual(self.look_at(rows, [], often), rows)

    def test_by_middles(self):
        rows = [["a", "b", "c"], ["x", "y", "z"]]
        self.assertEqual(self.look_at(rows, [("a", "z"), ("b", "y"), ("c", "x")], 1), [["a", "b", "c"], ["z", "y", "x"]])
        lines = [("c", "x"), ("a", "x"), ("a", "y"), ("c", "z"), ("b", "z"), ("a", "z")]
        self.assertEqual(self.look_at(rows, lines, 1), [["a", "b", "c"], ["y", "x", "z"]])

    def test_middles_that_are_no_whole_numbers(self):
        rows = [["a", "b", "c", "d"], ["x", "y"]]
        # The middles 1/2 and 1/3: cut to whole numbers they would be alike.
        lines = [("a", "x"), ("b", "x"), ("a", "y"), ("a", "y"), ("b", "y")]
        self.assertEqual(self.look_at(rows, lines, 1), [["a", "b", "c", "d"], ["y", "x"]])
        # 7/5 and 4/3.
        lines = [(mark, "x") for mark in "abbcd"] + [(mark, "y") for mark in "abd"]
        self.assertEqual(self.look_at(rows, lines, 1), [["a", "b", "c", "d"], ["y", "x"]])

    def test_each_line_counts(self):
        rows = [["a", "b", "c"], ["x", "y"]]
        lines = [("b", "x"), ("a", "y"), ("a", "y"), ("c", "y")]
        self.assertEqual(self.look_at(rows, lines, 1), [["a", "b", "c"], ["y", "x"]])
        self.assertEqual(swept_down(rows, [("b", "x"), ("a", "y"), ("c", "y")])[1], ["x", "y"])

    def test_like_middles_stay_in_their_order(self):
        rows = [["a", "b", "c"], ["y", "x", "z", "w"]]
        # y, x and z have the middle 1, in three ways.
        lines = [("b", "y"), ("a", "x"), ("c", "x"), ("b", "z"), ("b", "z"), ("a", "w")]
        self.assertEqual(self.look_at(rows, lines, 1), [["a", "b", "c"], ["w", "y", "x", "z"]])

    def test_a_mark_without_lines_upward_has_its_own_place(self):
        rows = [["a", "b", "c", "d"], ["x", "y", "z", "w"]]
        # The middles are 3, 1, 2 and 0; y and z have no lines.
        self.assertEqual(self.look_at(rows, [("d", "x"), ("a", "w")], 1), [rows[0], ["w", "y", "z", "x"]])
        # The middles are 1, 1, 0 and 3; y has no line.
        self.assertEqual(self.look_at(rows, [("b", "x"), ("a", "z"), ("d", "w")], 1), [rows[0], ["z", "x", "y", "w"]])
        # The middles are 3, 1, 1 and 2; y has no line.
        self.assertEqual(self.look_at(rows, [("d", "x"), ("b", "z"), ("c", "w")], 1), [rows[0], ["y", "z", "w", "x"]])

    def test_a_mark_without_lines_downward_has_its_own_place(self):
        rows = [["a", "b", "n", "c"], ["x", "y"]]
        # Down, the middles are 3/2 and 1; then, up, they are 1, 0, 2 and 1, and n has no line.
        lines = [("a", "x"), ("b", "y"), ("c", "x")]
        self.assertEqual(self.look_at(rows, lines, 1), rows)
        self.assertEqual(self.look_at(rows, lines, 2), [["b", "a", "c", "n"], ["y", "x"]])

    def test_down_goes_by_the_row_above_as_it_is_by_then(self):
        rows = [["a", "b"], ["x", "y"], ["k", "l"]]
        lines = [("a", "y"), ("b", "x"), ("x", "k"), ("y", "l")]
        self.assertEqual(self.look_at(rows, lines, 1), [["a", "b"], ["y", "x"], ["l", "k"]])

    def test_up_goes_behind_down(self):
        rows = [["a", "b", "c"], ["x", "y"]]
        lines = [("a", "x"), ("b", "y"), ("c", "x")]
        self.assertEqual(self.look_at(rows, lines, 1), rows)
        self.assertEqual(self.look_at(rows, lines, 2), [["a", "c", "b"], ["x", "y"]])

    def test_up_goes_by_the_row_below_as_it_is_by_then(self):
        rows = [["a", "b", "c"], ["x", "y", "z"], ["k", "l"]]
        # Down, nothing moves; up, y goes to the place 0, and so c has the middle 0.
        lines = [("c", "y"), ("z", "l"), ("y", "k"), ("x", "l")]
        self.assertEqual(self.look_at(rows, lines, 1), rows)
        self.assertEqual(self.look_at(rows, lines, 2), [["a", "c", "b"], ["y", "x", "z"], ["k", "l"]])

    def test_no_sweep(self):
        rows = [["a", "b"], ["x", "y"]]
        self.assertEqual(self.look_at(rows, [("a", "y"), ("b", "x")], 0), rows)

    def test_the_first_of_those_with_the_least(self):
        # A sweep puts z ahead of y, but there was no crossing to take away.
        rows, lines = [["a", "b"], ["x", "y", "z"]], [("b", "z"), ("a", "z")]
        self.assertEqual(each_sweep(rows, lines, 1)[1], [["a", "b"], ["x", "z", "y"]])
        for often in range(8):
            self.assertEqual(self.look_at(rows, lines, often), rows)
        # There are 2, 1, 0 and, in another order, 0 crossings.
        rows = [["a", "b", "c"], ["x", "y", "z"], ["k", "l", "m"]]
        lines = [("c", "y"), ("c", "x"), ("y", "m"), ("x", "k"), ("x", "l"), ("z", "k")]
        self.assertEqual(self.look_at(rows, lines, 1), [rows[0], ["x", "y", "z"], ["l", "k", "m"]])
        for often in range(2, 8):
            self.assertEqual(self.look_at(rows, lines, often), [rows[0], ["x", "z", "y"], ["l", "k", "m"]])

    def test_a_later_sweep_is_worse(self):
        # There are 2, 0 and 1 crossings.
        rows = [["a", "b", "c"], ["x", "y", "z"], ["k", "l", "m"]]
        lines = [("c", "y"), ("b", "z"), ("c", "x"), ("z", "m"), ("z", "l")]
        for often in range(1, 8):
            self.assertEqual(self.look_at(rows, lines, often), [rows[0], ["z", "x", "y"], rows[2]])

    def test_later_sweeps_may_be_worse(self):
        chance = random.Random(63)
        worse = same = 0
        for time in range(300):
            rows, lines = random_rows(chance, [4, 4, 4], 9)
            found = each_sweep(rows, lines, 5)
            numbers = [all_by_pairs(each, lines) for each in found]
            self.look_at(rows, lines, 5)
            worse += numbers[-1] > min(numbers)
            least = [each for each, number in zip(found, numbers) if number == min(numbers)]
            same += any(each != least[0] for each in least)
        self.assertGreater(worse, 5)
        self.assertGreater(same, 10)

    def test_four_times_where_nothing_is_said(self):
        chance = random.Random(64)
        less = more = 0
        for time in range(300):
            rows, lines = random_rows(chance, [6, 6, 6, 6], 20)
            told = swept(rows, lines)
            self.assertEqual(told, self.look_at(rows, lines, 4))
            less += told != swept(rows, lines, 3)
            more += told != swept(rows, lines, 5)
        self.assertGreater(less, 10)
        self.assertGreater(more, 10)

    def test_often_by_its_name(self):
        rows = [["a", "b"], ["x", "y"]]
        lines = [("a", "y"), ("b", "x")]
        self.assertEqual(swept(rows, lines, often=0), rows)
        self.assertEqual(swept(rows=rows, lines=lines, often=1), [["a", "b"], ["y", "x"]])

    def test_many_rows(self):
        chance = random.Random(65)
        for time in range(150):
            widths = [chance.randint(0, 7) for row in range(chance.randint(0, 7))]
            rows, lines = random_rows(chance, widths, chance.randint(0, 25))
            self.look_at(rows, lines, chance.randint(0, 20))

    def test_the_greatest(self):
        chance = random.Random(66)
        self.look_at(*random_rows(chance, [60] * 20, 200), 20)
        self.look_at(*random_rows(chance, [60, 60], 200), 20)
        self.look_at(*random_rows(chance, [60, 2], 200), 3)


class SettledTest(OrdersCase):
    def look_at(self, rows, lines):
        """Checks each change against the words, and tells the log."""
        kept = ([list(row) for row in rows], list(lines))
        answer = settled(rows, lines)
        self.assertEqual((rows, lines), kept)
        self.assertIs(type(answer), tuple)
        told, log = answer
        self.look_at_rows(told, rows)
        self.assertIs(type(log), list)
        standing = rows
        for entry in log:
            self.assertIs(type(entry), tuple)
            self.assertEqual(entry, worth_changing(standing, lines)[0])
            ahead = all_by_pairs(standing, lines)
            standing = changed(standing, entry[0], entry[1])
            self.assertEqual(ahead - all_by_pairs(standing, lines), entry[2])
        self.assertEqual(worth_changing(standing, lines), [])
        self.assertEqual(told, standing)
        return log

    def test_nothing_to_settle(self):
        for rows in ([], [[]], [["b", "a"]], [[], ["a", "b"], []], [["b", "a"], ["d", "c"]]):
            self.assertEqual(settled(rows, []), (rows, []))

    def test_rows_that_are_settled_already(self):
        rows = [["a", "b"], ["x", "y"]]
        self.assertEqual(settled(rows, [("a", "x"), ("b", "y")]), (rows, []))
        lines = [("a", "x"), ("a", "y"), ("b", "x"), ("b", "y")]
        self.assertEqual((all_crossings(rows, lines), settled(rows, lines)), (1, (rows, [])))
        chance = random.Random(67)
        for time in range(40):
            rows, lines = random_rows(chance, [4, 4, 3], 12)
            told = settled(rows, lines)[0]
            self.assertEqual(settled(told, lines), (told, []))

    def test_one_change(self):
        rows = [["a", "b"], ["x", "y"]]
        self.assertEqual(settled(rows, [("a", "y"), ("b", "x")]), ([["b", "a"], ["x", "y"]], [(0, 0, 1)]))
        self.assertEqual(settled(rows, [("a", "y"), ("b", "x")] * 3), ([["b", "a"], ["x", "y"]], [(0, 0, 9)]))

    def test_the_upmost_row_first(self):
        rows = [["a"], ["b", "c"], ["d", "e"], ["f", "g"]]
        # To change the third row would take both crossings away.
        lines = [("b", "e"), ("c", "d"), ("d", "g"), ("e", "f")]
        self.assertEqual(self.look_at(rows, lines), [(1, 0, 1), (3, 0, 1)])

    def test_the_least_place_first(self):
        rows = [["a", "b", "c"], ["x", "y", "z"]]
        self.assertEqual(self.look_at(rows, [("a", "z"), ("b", "y"), ("c", "x")]), [(0, 0, 1), (0, 1, 1), (0, 0, 1)])

    def test_not_the_one_that_takes_most_away(self):
        rows = [["a", "b", "c"], ["x", "y", "z"]]
        lines = [("c", "x"), ("b", "y"), ("c", "x"), ("a", "z")]
        self.assertEqual(worth_changing(rows, lines), [(0, 0, 1), (0, 1, 2), (1, 0, 2), (1, 1, 1)])
        self.assertEqual(self.look_at(rows, lines), [(0, 0, 1), (0, 1, 2), (0, 0, 2)])

    def test_a_change_below_makes_one_above_worth_it(self):
        rows = [["a", "b"], ["x", "y"], ["k", "l"]]
        lines = [("b", "x"), ("a", "y"), ("x", "l"), ("y", "k"), ("x", "l")]
        self.assertEqual(self.look_at(rows, lines), [(0, 0, 1), (1, 0, 1), (0, 0, 1)])
        chance = random.Random(68)
        back = 0
        for time in range(80):
            log = self.look_at(*random_rows(chance, [4, 4, 4, 4], 14))
            back += any(later[0] < entry[0] for entry, later in zip(log, log[1:]))
        self.assertGreater(back, 5)

    def test_many_rows(self):
        chance = random.Random(69)
        for time in range(120):
            widths = [chance.randint(0, 5) for row in range(chance.randint(0, 5))]
            self.look_at(*random_rows(chance, widths, chance.randint(0, 14)))

    def test_great_rows(self):
        # Too many to look at each change in full: each one is followed, the end is looked at.
        chance = random.Random(70)
        for widths in ([60, 60], [60] * 20, [60, 2, 60], [30] * 6):
            rows, lines = random_rows(chance, widths, 200)
            told, log = settled(rows, lines)
            standing = rows
            for row, k, fewer in log:
                self.assertGreater(fewer, 0)
                standing = changed(standing, row, k)
            self.assertEqual(told, standing)
            self.assertEqual(all_by_pairs(rows, lines) - sum(entry[2] for entry in log), all_by_pairs(told, lines))
            self.assertEqual(settled(told, lines), (told, []))


class AskersOwnTest(unittest.TestCase):
    ROWS = [["a", "b", "c"], ["x", "y", "z"], ["k", "l"]]
    LINES = [("a", "z"), ("b", "y"), ("c", "x"), ("x", "l"), ("y", "k"), ("z", "k")]

    def handed(self):
        return [list(row) for row in self.ROWS], list(self.LINES)

    def asked(self, rows, lines):
        return [crossings(rows[0], rows[1], lines[:3]), all_crossings(rows, lines), swept(rows, lines, 0),
                swept(rows, lines), settled(rows, lines)]

    def test_the_same_asked_twice(self):
        rows, lines = self.handed()
        self.assertEqual(self.asked(rows, lines), self.asked(rows, lines))
        self.assertEqual(self.asked(rows, lines), self.asked(*self.handed()))
        self.assertEqual((rows, lines), self.handed())

    def test_what_the_asker_does_to_what_is_told_changes_nothing(self):
        rows, lines = self.handed()
        first = self.asked(rows, lines)
        for often in range(5):
            told = swept(rows, lines, often)
            for row in told:
                row.clear()
            told.pop()
        told, log = settled(rows, lines)
        told[0].append("n")
        told.reverse()
        log.clear()
        self.assertEqual((rows, lines), self.handed())
        self.assertEqual(self.asked(rows, lines), first)

    def test_settled_rows_told_are_new(self):
        rows, lines = [["a"], ["b"]], [("a", "b")]
        for told in (swept(rows, lines, 0), swept(rows, lines, 3), settled(rows, lines)[0]):
            told[0].append("c")
            told[1].append("d")
            told.append([])
            self.assertEqual(rows, [["a"], ["b"]])

    def test_what_is_handed_in_changed_behind_the_call(self):
        rows, lines = self.handed()
        told = self.asked(rows, lines)
        first = self.asked(*self.handed())
        rows[0].reverse()
        rows[1].clear()
        rows.pop()
        lines.clear()
        self.assertEqual(told, first)


if __name__ == "__main__":
    unittest.main()
