"""What the document promises over the whole program: [0.1], [0.2], [0.3]."""

import copy
import itertools
import random
import unittest

from checks import adds_up, bound_of, faults, goes_round, keeps_all, reached, turned_by_the_words, wishes_by_the_words
from layerdraw.changes import again, moves_of, wishes_again
from layerdraw.desks import Desk
from layerdraw.errors import Ring, TooLong, TooMany
from layerdraw.items import Item, Own, Small
from layerdraw.laying import laid
from layerdraw.levels import halves_of, keeps_net, length, levelled, marks_of, pairs_of, rows_of, wishes_of
from layerdraw.nets import Net
from layerdraw.orders import all_crossings, crossings, settled, swept
from layerdraw.papers import bound, fits, is_ring, worth
from layerdraw.pictures import picture, read_picture, strokes
from layerdraw.reading import net_text, read_net
from layerdraw.rings import in_line, ring_of, turned
from layerdraw.sideways import asked, cost_of, heavy, keeps_gap, sideways
from layerdraw.tables import least_order
from made import net_of, random_net

LINES = ("point a 3", "point b", "point c 5", "point d 1", "point e", "arrow a b 1 2", "arrow b c", "arrow c a 3",
         "arrow d e", "arrow a e 2", "arrow b d", "same d c", "most a e 9")
WISHES = [(0, 1, 1, 2), (1, 2, 1, 1), (0, 2, 3, 1), (2, 0, -5, 0)]
RINGED = [(0, 1, 1, 1), (1, 2, 0, 1), (2, 0, 0, 1)]


def plain(value):
    """The same in lists, tuples, dicts, texts and numbers alone, for nets, items and desks too."""
    if isinstance(value, (list, tuple)):
        return type(value)(plain(part) for part in value)
    if isinstance(value, dict):
        return [(plain(key), plain(part)) for key, part in value.items()]
    if isinstance(value, (Item, Net, Desk)):
        return [type(value).__name__, plain(vars(value))]
    return value


def holders(value):
    """All lists, tuples, dicts and items that the value holds, with itself; tuples without anything are all one."""
    found = [value] if isinstance(value, (list, tuple, dict, Item)) and value != () else []
    if isinstance(value, dict):
        value = [*value.keys(), *value.values()]
    if isinstance(value, (Item, Net)):
        value = list(vars(value).values())
    if isinstance(value, (list, tuple)):
        for part in value:
            found += holders(part)
    return found


def spoil(value):
    """Changes all that can be changed in what was told."""
    for part in holders(value):
        if isinstance(part, Own):
            part.name, part.wide = "spoilt", 77
        if isinstance(part, Small):
            part.arrow, part.step = 77, 77
        if isinstance(part, (list, dict)):
            part.clear()


def handed_in():
    """A fresh set of things to hand in, by the names of what they are."""
    net = net_of(*LINES)
    net.take_arrow(3)
    levels = {"a": 0, "b": 2, "c": 4, "d": 4, "e": 6, "x": 3}
    rows = [[Own("a", 3), Small(7, 1)], [], [Small(2, 1), Own("b", 0), Own("c", 5)], [Own("d", 1)]]
    lines = [("b", "d", 2), ("2.1", "d", 8), ("c", "d", 2), ("b", "d", 2)]
    marks = [["p", "q", "r"], ["s", "t"], [], ["u"]]
    pairs = [("p", "t"), ("q", "s"), ("r", "s"), ("q", "t"), ("p", "t")]
    return {
        "net": net, "levels": levels, "rows": rows, "lines": lines, "marks": marks, "pairs": pairs,
        "places": {"a": 0, "7.1": 200, "2.1": 3, "b": 4, "c": 5, "d": 9, "x": -4},
        "halves": {"p": 1, "q": 2, "r": 3, "s": 0, "t": 50, "u": 6}, "weighed": [(*pair, 3) for pair in pairs],
        "sides": {"p": 0, "q": 9, "r": 20, "s": 0, "t": 60, "u": 5}, "wishes": list(WISHES), "ringed": list(RINGED),
        "laid": [0, 2, 3], "flow": [1, 0, 2, 0], "ring": [0, 1, 2], "old": {"a": 5, "d": 1, "x": 9, "c": 10 ** 6},
        "numbers": [0, 3, 0, 1, 0, 0, 0, 2], "text": net_text(net), "drawn": "a\n\n.         b\n",
    }


# For each function of the interface how it is asked, by the things handed in.
ASKED = {
    "points": lambda given: given["net"].points(),
    "half_of": lambda given: given["net"].half_of("c"),
    "arrows": lambda given: given["net"].arrows(),
    "sames": lambda given: given["net"].sames(),
    "mosts": lambda given: given["net"].mosts(),
    "read_net": lambda given: read_net(given["text"]),
    "net_text": lambda given: net_text(given["net"]),
    "turned": lambda given: turned(given["net"]),
    "ring_of": lambda given: ring_of(given["net"], 2),
    "in_line": lambda given: in_line(given["net"]),
    "laid": lambda given: laid(3, given["wishes"]),
    "fits": lambda given: fits(3, given["wishes"], given["laid"]),
    "worth": lambda given: worth(given["wishes"], given["laid"]),
    "bound": lambda given: bound(3, given["wishes"], given["flow"]),
    "is_ring": lambda given: is_ring(given["ringed"], given["ring"]),
    "wishes_of": lambda given: wishes_of(given["net"]),
    "keeps_net": lambda given: keeps_net(given["net"], given["levels"]),
    "length": lambda given: length(given["net"], given["levels"]),
    "levelled": lambda given: levelled(given["net"]),
    "rows_of": lambda given: rows_of(given["net"], given["levels"]),
    "marks_of": lambda given: marks_of(given["rows"]),
    "halves_of": lambda given: halves_of(given["rows"]),
    "pairs_of": lambda given: pairs_of(given["lines"]),
    "crossings": lambda given: crossings(given["marks"][0], given["marks"][1], given["pairs"]),
    "all_crossings": lambda given: all_crossings(given["marks"], given["pairs"]),
    "swept": lambda given: swept(given["marks"], given["pairs"]),
    "not swept": lambda given: swept(given["marks"], given["pairs"], 0),
    "settled": lambda given: settled(given["marks"], given["pairs"]),
    "least_order": lambda given: least_order(given["marks"][0], given["marks"][1], given["pairs"]),
    "keeps_gap": lambda given: keeps_gap(given["marks"], given["halves"], 4, given["sides"]),
    "cost_of": lambda given: cost_of(given["weighed"], given["sides"]),
    "asked": lambda given: asked(given["marks"], given["halves"], given["weighed"], 4),
    "sideways": lambda given: sideways(given["marks"], given["halves"], given["weighed"], 4),
    "heavy": lambda given: heavy(given["rows"][0][0], given["rows"][0][1], 5),
    "picture": lambda given: picture(given["rows"], given["places"]),
    "read_picture": lambda given: read_picture(given["drawn"]),
    "strokes": lambda given: strokes(given["rows"], given["lines"], given["places"]),
    "again": lambda given: again(given["net"], given["old"]),
    "wishes_again": lambda given: wishes_again(given["net"], given["old"], given["numbers"]),
    "moves_of": lambda given: moves_of(given["net"], given["old"], given["levels"]),
}


class AskersOwnTest(unittest.TestCase):
    """[0.2], function by function."""

    def test_what_is_handed_in_does_for_the_functions(self):
        given = handed_in()
        self.assertEqual(len(given["numbers"]), len(wishes_of(given["net"])))
        self.assertTrue(keeps_net(given["net"], given["levels"]))

    def test_nothing_that_is_handed_in_is_changed(self):
        for name, ask in ASKED.items():
            with self.subTest(name=name):
                given = handed_in()
                ask(given)
                self.assertEqual(plain(given), plain(handed_in()))

    def test_asked_again_the_same_is_told(self):
        for name, ask in ASKED.items():
            with self.subTest(name=name):
                given = handed_in()
                first = plain(ask(given))
                self.assertEqual(plain(ask(given)), first)
                self.assertEqual(plain(ask(handed_in())), first)
                self.assertEqual(plain(ask(copy.deepcopy(given))), first)

    def test_what_is_told_is_new_each_time(self):
        for name, ask in ASKED.items():
            with self.subTest(name=name):
                given = handed_in()
                first, second = ask(given), ask(given)
                kept = {id(part) for part in holders(given)} | {id(part) for part in holders(second)}
                self.assertEqual([part for part in holders(first) if id(part) in kept], [])

    def test_what_the_asker_does_to_it_changes_nothing(self):
        for name, ask in ASKED.items():
            with self.subTest(name=name):
                given = handed_in()
                first, second = ask(given), ask(given)
                whole = plain(second)
                spoil(first)
                self.assertEqual(plain(second), whole)
                self.assertEqual(plain(given), plain(handed_in()))
                self.assertEqual(plain(ask(given)), whole)

    def test_what_the_asker_does_to_what_was_handed_in_changes_nothing_told(self):
        for name, ask in ASKED.items():
            with self.subTest(name=name):
                given = handed_in()
                told = ask(given)
                whole = plain(told)
                spoil([value for value in given.values() if not isinstance(value, Net)])
                given["net"].take_arrow(0)
                given["net"].put_point("z", 9)
                given["net"].put_same("a", "z")
                given["net"].put_most("a", "z", 1)
                given["net"].put_arrow("z", "b")
                self.assertEqual(plain(told), whole)

    def test_what_is_asked_later_changes_nothing_told(self):
        given = handed_in()
        told = {name: ask(given) for name, ask in ASKED.items()}
        whole = plain(told)
        for name, ask in ASKED.items():
            spoil(ask(given))
        self.assertEqual(plain(told), whole)

    def test_a_desk_tells_texts_and_the_same_twice(self):
        desk, other = Desk(), Desk()
        for line in (*LINES, "drop 3", "turned", "ring 2", "level", "levels", "cross", "draw 2", "again", "net"):
            answer = desk.say(line)
            self.assertIs(type(answer), str)
            self.assertEqual(other.say(line), answer)


class WholeTest(unittest.TestCase):
    """[0.1] and [0.3]: from a net's text to its picture, and the papers for all that is told as least."""

    def look_at(self, net):
        """Looks at each step by itself, and tells how far it came."""
        self.assertEqual(net_text(read_net(net_text(net))), net_text(net))
        self.look_at_rings(net)
        try:
            levels, flow = levelled(net)
        except Ring as refusal:
            self.assertTrue(goes_round(wishes_by_the_words(net), refusal.ring))
            return "ring"
        self.look_at_levels(net, levels, flow)
        try:
            rows, lines = rows_of(net, levels)
        except TooLong:
            return "too long"
        self.look_at_rows(net, levels, rows, lines)
        marks = self.look_at_orders(rows, lines)
        try:
            places = self.look_at_sides(rows, lines, marks)
        except TooMany:
            return "too many"
        if max(places.values(), default=0) > 200:
            with self.assertRaises(TooLong):
                picture(rows, places)
            return "too wide"
        self.look_at_picture(rows, lines, marks, places)
        return "drawn"

    def look_at_rings(self, net):
        about = turned(net)
        self.assertEqual(about, turned_by_the_words(net))
        ends = {number: (one, other) for number, one, other, span, weight in net.arrows()}
        kept = [ends[number] for number in ends if number not in about]
        for name in net.points():
            self.assertNotIn(name, reached(kept, name))
        for number in about:
            ring = ring_of(net, number)
            self.assertEqual(ring[0], number)
            self.assertTrue(all(later not in about for later in ring[1:]))
            for one, other in zip(ring, ring[1:] + ring[:1]):
                self.assertEqual(ends[one][1], ends[other][0])

    def look_at_levels(self, net, levels, flow):
        places = [levels[name] for name in net.points()]
        self.assertEqual(faults(len(places), wishes_by_the_words(net), places, flow), [])
        about = turned(net)
        for number, one, other, span, weight in net.arrows():
            down = levels[other] - levels[one]
            self.assertGreaterEqual(0 - down if number in about else down, span)
        for one, other in net.sames():
            self.assertEqual(levels[one], levels[other])
        for one, other, number in net.mosts():
            self.assertLessEqual(levels[other] - levels[one], number)

    def look_at_rows(self, net, levels, rows, lines):
        at = {item.label(): number for number, row in enumerate(rows) for item in row}
        self.assertEqual(len(at), sum(len(row) for row in rows))
        for upper, lower, weight in lines:
            self.assertEqual(at[lower], at[upper] + 1)
        self.assertEqual({name: at[name] for name in net.points()}, levels)
        for number, one, other, span, weight in net.arrows():
            top, low = sorted((levels[one], levels[other]))
            steps = [label for label in at if label.startswith(f"{number}.")]
            self.assertEqual(sorted(at[label] for label in steps), list(range(top + 1, low)))

    def look_at_orders(self, rows, lines):
        marks, pairs = marks_of(rows), pairs_of(lines)
        before = swept(marks, pairs)
        self.assertLessEqual(all_crossings(before, pairs), all_crossings(marks, pairs))
        after, log = settled(before, pairs)
        self.assertEqual([sorted(row) for row in after], [sorted(row) for row in marks])
        self.assertEqual(all_crossings(before, pairs) - sum(change[2] for change in log), all_crossings(after, pairs))
        for upper, lower in zip(after, after[1:]):
            between = [(high, low) for high, low in pairs if high in upper]
            if len(lower) <= 8:
                number, order, table = least_order(upper, lower, between)
                self.assertLessEqual(number, crossings(upper, lower, between))
                self.assertEqual(crossings(upper, order, between), number)
            if len(upper) <= 8:
                number, order, table = least_order(lower, upper, [two[::-1] for two in between])
                self.assertLessEqual(number, crossings(upper, lower, between))
                self.assertEqual(crossings(order, lower, between), number)
        return after

    def look_at_sides(self, rows, lines, marks):
        places, flow = sideways(marks, halves_of(rows), lines, 1)
        self.assertTrue(keeps_gap(marks, halves_of(rows), 1, places))
        count, wishes = asked(marks, halves_of(rows), lines, 1)
        self.assertTrue(adds_up(count, wishes, flow))
        self.assertEqual(bound_of(wishes, flow), cost_of(lines, places))
        return places

    def look_at_picture(self, rows, lines, marks, places):
        items = {item.label(): item for row in rows for item in row}
        ordered = [[items[mark] for mark in row] for row in marks]
        read = read_picture(picture(ordered, places))
        signs = [[("." if "." in mark else mark, places[mark]) for mark in row] for row in marks]
        self.assertEqual(read, signs if signs else [[]])
        drawn = {(place, number) for number, row in enumerate(read) for sign, place in row}
        for stroke in strokes(ordered, lines, places):
            self.assertTrue({stroke[:2], stroke[2:]} <= drawn)

    def test_a_net_without_anything(self):
        self.assertEqual(self.look_at(Net()), "drawn")

    def test_a_net(self):
        self.assertEqual(self.look_at(net_of(*LINES)), "drawn")

    def test_many_nets(self):
        chance = random.Random(1)
        met = {}
        for time in range(150):
            count = chance.randint(2, chance.choice((4, 8, 20)))
            net = random_net(chance, count, chance.randint(0, chance.choice((5, 10, 40))), chance.choice((0, 0, 1)),
                             chance.choice((0, 0, 1, 3)), chance.choice((1, 2, 20)), 9)
            end = self.look_at(net)
            met[end] = met.get(end, 0) + 1
        self.assertEqual(sorted(met), ["drawn", "ring", "too long", "too many", "too wide"])
        self.assertGreater(met["drawn"], 10)

    def test_behind_changes(self):
        """Behind a change the levels are of the least length, and no others of this length move less."""
        chance = random.Random(2)
        for time in range(30):
            net = random_net(chance, 4, 3, 0, 0, 2, 0)
            levels = levelled(net)[0]
            for step in range(3):
                if net.arrows() and chance.random() < 0.5:
                    net.take_arrow(chance.choice(net.arrows())[0])
                net.put_arrow(*chance.sample(net.points(), 2), chance.randint(1, 2))
                wishes = wishes_by_the_words(net)
                new, flow, moves, paper = again(net, levels)
                self.assertEqual(length(net, new), length(net, levelled(net)[0]))
                self.assertEqual(bound_of(wishes, flow), length(net, new))
                self.assertEqual(moves, moves_of(net, levels, new))
                for places in itertools.product(range(7), repeat=4):
                    if keeps_all(wishes, places) and worth(wishes, places) == length(net, new):
                        tried = dict(zip(net.points(), places))
                        self.assertGreaterEqual(moves_of(net, levels, tried), moves)
                levels = new


if __name__ == "__main__":
    unittest.main()
