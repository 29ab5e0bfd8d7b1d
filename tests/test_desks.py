import inspect
import random
import re
import unittest

from checks import goes_round, keeps_all, turned_by_the_words, wishes_by_the_words
from layerdraw import desks
from layerdraw.changes import again
from layerdraw.desks import Desk
from layerdraw.errors import (
    Alone, DrawError, NoLine, NoName, NoNumber, NoPoint, NoSuch, Ring, Stale, Taken, TooLong, TooMany,
)
from layerdraw.levels import halves_of, length, levelled, marks_of, pairs_of, rows_of
from layerdraw.nets import Net
from layerdraw.orders import all_crossings, settled, swept
from layerdraw.pictures import picture, read_picture
from layerdraw.reading import net_text
from layerdraw.rings import ring_of
from layerdraw.sideways import sideways
from made import LETTERS

NUMBER = "(0|[1-9][0-9]{0,6})"
WORD = "([^ ]*)"
FORMS = {
    "point": f"point {WORD}(?: {NUMBER})?",
    "arrow": f"arrow {WORD} {WORD}(?: {NUMBER}(?: {NUMBER})?)?",
    "same": f"same {WORD} {WORD}",
    "most": f"most {WORD} {WORD} {NUMBER}",
    "drop": f"drop {NUMBER}",
    "ring": f"ring {NUMBER}",
    "draw": f"draw {NUMBER}",
    "plain": "(turned|level|again|levels|cross|net)",
}


def desk_of(*lines):
    desk = Desk()
    for line in lines:
        desk.say(line)
    return desk


def points_of(count, half=0):
    return [f"point {name} {half}" for name in LETTERS[:count]]


class Model:
    """[9.3], [9.4] by the words: a net and levels of its own, and the program's functions for what they leave free."""

    def __init__(self):
        self.net = Net()
        self.levels = {}

    def answer(self, line):
        for kind, form in FORMS.items():
            found = re.fullmatch(form, line)
            if found:
                given = [word for word in found.groups() if word is not None]
                names = {"point": 1, "arrow": 2, "same": 2, "most": 2, "plain": 1}.get(kind, 0)
                return getattr(self, kind)(*given[:names], *[int(word) for word in given[names:]])
        raise NoLine(0)

    def point(self, *given):
        self.net.put_point(*given)
        return "ok"

    def arrow(self, *given):
        return "arrow " + str(self.net.put_arrow(*given))

    def same(self, *given):
        self.net.put_same(*given)
        return "ok"

    def most(self, *given):
        self.net.put_most(*given)
        return "ok"

    def drop(self, number):
        self.net.take_arrow(number)
        return "ok"

    def ring(self, number):
        return " ".join(map(str, ring_of(self.net, number)))

    def draw(self, gap):
        if gap not in range(1, 51):
            raise NoLine(0)
        rows, lines = self.rows()
        marks = self.ordered(rows, lines)
        places = sideways(marks, halves_of(rows), lines, gap)[0]
        items = {item.label(): item for row in rows for item in row}
        return picture([[items[mark] for mark in row] for row in marks], places)

    def rows(self):
        for name in self.net.points():
            if name not in self.levels:
                raise NoPoint(name)
        if not keeps_all(wishes_by_the_words(self.net), [self.levels[name] for name in self.net.points()]):
            raise Stale()
        return rows_of(self.net, self.levels)

    def ordered(self, rows, lines):
        return settled(swept(marks_of(rows), pairs_of(lines), 4), pairs_of(lines))[0]

    def plain(self, word):
        if word == "turned":
            return " ".join(map(str, turned_by_the_words(self.net))) or "none"
        if word == "level":
            self.levels = levelled(self.net)[0]
            return f"length {length(self.net, self.levels)}"
        if word == "again":
            self.levels, flow, moves, paper = again(self.net, self.levels)
            return f"length {length(self.net, self.levels)} moves {moves}"
        if word == "levels":
            told = [f"{name} {self.levels[name]}" for name in self.net.points() if name in self.levels]
            return "; ".join(told) or "none"
        if word == "net":
            return net_text(self.net)
        rows, lines = self.rows()
        numbers = [all_crossings(marks, pairs_of(lines)) for marks in (marks_of(rows), self.ordered(rows, lines))]
        return f"{numbers[0]} {numbers[1]}"


class DeskCase(unittest.TestCase):
    def say(self, desk, *rows):
        """Says each line and looks at its answer: rows are tuples (line, answer)."""
        for line, answer in rows:
            told = desk.say(line)
            self.assertEqual((type(told), told), (str, answer), line)

    def state(self, desk):
        return desk.say("net"), desk.say("levels"), desk.say("turned")

    def refused(self, desk, line, kind, **fields):
        """Refused with just this class and these fields, twice, nothing being changed."""
        ahead = self.state(desk)
        for time in range(2):
            with self.assertRaises(DrawError, msg=repr(line)) as taken:
                desk.say(line)
            self.assertIs(type(taken.exception), kind, repr(line))
            self.assertEqual({name: getattr(taken.exception, name) for name in fields}, fields, repr(line))
            self.assertEqual(self.state(desk), ahead)

    def no_line(self, desk, *lines):
        for line in lines:
            self.refused(desk, line, NoLine, number=0)


class PuttingTest(DeskCase):
    def test_the_class_and_its_method(self):
        self.assertEqual(str(inspect.signature(desks.Desk)), "()")
        self.assertEqual(str(inspect.signature(desks.Desk.say)), "(self, line)")

    def test_a_new_desk(self):
        self.say(Desk(), ("net", ""), ("levels", "none"), ("turned", "none"), ("cross", "0 0"), ("draw 1", ""),
                 ("again", "length 0 moves 0"), ("level", "length 0"), ("levels", "none"), ("cross", "0 0"),
                 ("net", ""))

    def test_two_desks(self):
        first, second = desk_of("point a", "point b", "arrow a b", "level"), Desk()
        self.say(second, ("net", ""), ("levels", "none"), ("point a", "ok"))
        self.say(first, ("net", "point a\npoint b\narrow a b"), ("levels", "a 0; b 1"))

    def test_lines_of_a_nets_text(self):
        desk = Desk()
        self.say(desk, ("point a", "ok"), ("point b 50", "ok"), ("point c 0", "ok"), ("arrow a b", "arrow 0"),
                 ("arrow b c 20", "arrow 1"), ("arrow c a 1 1000000", "arrow 2"), ("arrow a b 1", "arrow 3"),
                 ("arrow a b 1 1", "arrow 4"), ("same a c", "ok"), ("most b a 99", "ok"), ("most a b 0", "ok"),
                 ("net", "point a\npoint b 50\npoint c\narrow a b\narrow b c 20\narrow c a 1 1000000\narrow a b\n"
                         "arrow a b\nsame a c\nmost b a 99\nmost a b 0"))

    def test_numbers_go_on_behind_a_drop(self):
        desk = desk_of("point a", "point b")
        self.say(desk, ("arrow a b", "arrow 0"), ("arrow b a 2", "arrow 1"), ("drop 0", "ok"),
                 ("arrow a b 3", "arrow 2"), ("drop 2", "ok"), ("arrow a b 4", "arrow 3"), ("net", "point a\npoint b\narrow b a 2\narrow a b 4"),
                 ("drop 1", "ok"), ("drop 3", "ok"), ("net", "point a\npoint b"))

    def test_drops_of_no_arrow(self):
        desk = desk_of("point a", "point b", "arrow a b", "arrow a b", "drop 0")
        for number in (0, 2, 9999999):
            self.refused(desk, f"drop {number}", NoSuch, number=number)
        self.say(desk, ("drop 1", "ok"))
        self.refused(desk, "drop 1", NoSuch, number=1)
        self.refused(Desk(), "drop 0", NoSuch, number=0)

    def test_points_that_the_net_refuses(self):
        desk = desk_of("point a")
        for name in ("", "A", "a1", "abcdefghi", "7", "a\nb", "a.", "\u00e4", "a\t"):
            self.refused(desk, f"point {name}", NoName)
            self.refused(desk, f"point {name} 51", NoName)
        self.refused(desk, "point a", Taken)
        self.refused(desk, "point a 51", Taken)
        for half in (51, 100, 9999999):
            self.refused(desk, f"point b {half}", NoNumber)
        full = desk_of(*points_of(20))
        self.refused(full, "point u", TooMany)
        self.refused(full, "point u 51", NoNumber)
        self.refused(full, "point t", Taken)

    def test_arrows_that_the_net_refuses(self):
        desk = desk_of("point a", "point b")
        for line, name in (("x b", "x"), ("a x", "x"), ("x y", "x"), ("x x", "x"), ("A b", "A"), ("a ", ""), (" b", ""),
                           (" ", ""), ("a 1", "1"), ("x b 0 0", "x"), (" b 1", ""), ("a  1 1", "")):
            self.refused(desk, f"arrow {line}", NoPoint, name=name)
        self.refused(desk, "arrow a a", Alone)
        self.refused(desk, "arrow a a 0", Alone)
        for numbers in ("0", "21", "9999999", "1 0", "1 1000001", "0 1", "21 1"):
            self.refused(desk, f"arrow a b {numbers}", NoNumber)
        full = desk_of("point a", "point b", *["arrow a b"] * 40)
        self.refused(full, "arrow b a", TooMany)
        self.refused(full, "arrow b a 21", NoNumber)
        self.refused(full, "arrow b b", Alone)
        self.say(full, ("drop 17", "ok"), ("arrow b a", "arrow 40"))

    def test_sames_and_mosts_that_the_net_refuses(self):
        desk = desk_of("point a", "point b")
        for word, behind in (("same", ""), ("most", " 3"), ("most", " 100")):
            for names, name in (("x b", "x"), ("a x", "x"), ("x y", "x"), ("x x", "x"), ("a ", ""), (" b", ""),
                                (" ", "")):
                self.refused(desk, f"{word} {names}{behind}", NoPoint, name=name)
            self.refused(desk, f"{word} a a{behind}", Alone)
        self.refused(desk, "most a b 100", NoNumber)
        self.refused(desk, "most a b 9999999", NoNumber)
        full = desk_of("point a", "point b", *["same a b", "most a b 4"] * 20)
        self.refused(full, "same a b", TooMany)
        self.refused(full, "most a b 5", TooMany)
        self.refused(full, "most a b 100", NoNumber)
        self.refused(full, "same b b", Alone)

    def test_the_nets_text_said_again(self):
        desk = desk_of("point a 3", "point b", "most a b 7", "arrow b a 2 5", "same a b", "arrow a b 4", "drop 0")
        other = desk_of(*desk.say("net").split("\n"))
        self.assertEqual(other.say("net"), desk.say("net"))


class TurnedTest(DeskCase):
    def test_turned_and_rings(self):
        desk = desk_of("point a", "point b", "point c")
        self.say(desk, ("turned", "none"), ("arrow a b", "arrow 0"), ("turned", "none"), ("arrow b c", "arrow 1"),
                 ("arrow c a", "arrow 2"), ("turned", "2"), ("ring 2", "2 0 1"), ("arrow b a", "arrow 3"),
                 ("arrow a c", "arrow 4"), ("turned", "2 3"), ("ring 3", "3 0"), ("drop 1", "ok"), ("turned", "3 4"),
                 ("ring 4", "4 2"), ("ring 3", "3 0"), ("drop 4", "ok"), ("turned", "3"))
        for number in (0, 1, 2, 4, 5, 9999999):
            self.refused(desk, f"ring {number}", NoSuch, number=number)
        self.say(desk, ("ring 3", "3 0"), ("drop 0", "ok"), ("turned", "none"))
        self.refused(desk, "ring 3", NoSuch, number=3)


class LevelTest(DeskCase):
    def test_levels_are_kept(self):
        desk = desk_of("point b", "point a", "arrow a b 3 2")
        self.say(desk, ("levels", "none"), ("level", "length 6"), ("levels", "b 3; a 0"), ("point c", "ok"),
                 ("arrow b c", "arrow 1"), ("levels", "b 3; a 0"), ("drop 0", "ok"), ("levels", "b 3; a 0"),
                 ("same b c", "ok"), ("most a b 2", "ok"), ("levels", "b 3; a 0"))

    def test_level_behind_each_sort_of_line(self):
        desk = desk_of("point a", "point b", "point c")
        self.say(desk, ("level", "length 0"), ("levels", "a 0; b 0; c 0"), ("arrow a b 2 5", "arrow 0"),
                 ("arrow c b 4 1", "arrow 1"), ("level", "length 14"), ("levels", "a 2; b 4; c 0"), ("same a c", "ok"),
                 ("level", "length 24"), ("levels", "a 0; b 4; c 0"), ("drop 1", "ok"), ("level", "length 10"),
                 ("levels", "a 0; b 2; c 0"), ("most c b 1", "ok"))
        with self.assertRaises(Ring):
            desk.say("level")

    def test_again_near_the_levels_kept(self):
        desk = desk_of("point a", "point b", "point c", "arrow a b 4", "arrow b c", "level")
        self.say(desk, ("levels", "a 0; b 4; c 5"), ("drop 0", "ok"), ("again", "length 1 moves 0"),
                 ("levels", "a 0; b 4; c 5"), ("level", "length 1"), ("levels", "a 0; b 0; c 1"),
                 ("arrow c a 2", "arrow 2"), ("again", "length 3 moves 3"), ("levels", "a 3; b 0; c 1"),
                 ("again", "length 3 moves 0"), ("point d", "ok"), ("most d a 0", "ok"), ("arrow b d", "arrow 3"),
                 ("again", "length 6 moves 0"), ("levels", "a 3; b 0; c 1; d 3"))

    def test_again_without_levels_kept(self):
        desk = desk_of("point a", "point b", "arrow a b 3")
        self.say(desk, ("again", "length 3 moves 0"))
        # Which levels is free, but b stands three below a.
        found = re.fullmatch(f"a {NUMBER}; b {NUMBER}", desk.say("levels"))
        self.assertEqual(int(found[2]), int(found[1]) + 3)

    def test_the_moves_are_of_the_levels_kept_last(self):
        desk = desk_of("point a", "point b", "arrow a b 5", "level", "drop 0", "arrow b a 2")
        self.say(desk, ("again", "length 2 moves 7"))
        found = re.fullmatch(f"a {NUMBER}; b {NUMBER}", desk.say("levels"))
        self.assertEqual(int(found[1]), int(found[2]) + 2)
        self.say(desk, ("again", "length 2 moves 0"))

    def test_refused_with_a_ring_what_was_kept_stays(self):
        desk = desk_of("point a", "point b", "point c", "arrow a b 2", "arrow b c", "level", "most a c 2")
        for word in ("level", "again"):
            self.refused(desk, word, Ring)
            with self.assertRaises(Ring) as taken:
                desk.say(word)
            self.assertEqual(sorted(taken.exception.ring), [0, 1, 2])
            self.assertTrue(goes_round([(0, 1, 2, 1), (1, 2, 1, 1), (2, 0, -2, 0)], taken.exception.ring))
            taken.exception.ring.clear()
            self.say(desk, ("levels", "a 0; b 2; c 3"))
        fresh = desk_of("point a", "point b", "arrow a b", "same a b")
        for word in ("level", "again"):
            self.refused(fresh, word, Ring)
        self.say(fresh, ("levels", "none"), ("drop 0", "ok"), ("level", "length 0"), ("levels", "a 0; b 0"))

    def test_levels_of_points_put_in_later(self):
        desk = desk_of("level")
        self.say(desk, ("levels", "none"), ("point b", "ok"), ("levels", "none"), ("level", "length 0"),
                 ("point a", "ok"), ("levels", "b 0"), ("level", "length 0"), ("levels", "b 0; a 0"))


class CrossTest(DeskCase):
    CROSSED = ["point a", "point b", "point c", "point d", "arrow a d", "arrow b c"]
    # Swept three times and settled there are 2 crossings, swept four times 1, five times none.
    SWEPT = [f"point {name}" for name in "abcdefghi"] + [
        "arrow e c", "arrow h d", "arrow i b", "arrow h e", "arrow i a", "arrow a g", "arrow f b",
    ]

    def test_crossings_as_they_stand_and_behind(self):
        desk = desk_of(*self.CROSSED, "level")
        self.say(desk, ("cross", "1 0"), ("arrow a c", "arrow 2"), ("cross", "1 0"), ("arrow b d", "arrow 3"),
                 ("cross", "1 1"), ("arrow a d", "arrow 4"), ("cross", "2 1"), ("levels", "a 0; b 0; c 1; d 1"),
                 ("drop 3", "ok"), ("cross", "2 0"))

    def test_swept_four_times(self):
        desk = desk_of(*self.SWEPT, "level")
        self.say(desk, ("levels", "a 1; b 1; c 2; d 1; e 1; f 0; g 2; h 0; i 0"), ("cross", "6 1"))

    def test_small_ones_cross_too(self):
        desk = desk_of("point a", "point b", "point c", "point d", "arrow a d 3", "arrow b c 3", "level")
        self.say(desk, ("cross", "1 0"))

    def test_to_cross_changes_nothing(self):
        desk = desk_of(*self.CROSSED, "level")
        ahead = self.state(desk)
        self.assertEqual(desk.say("cross"), desk.say("cross"))
        self.assertEqual(desk.say("draw 3"), desk.say("draw 3"))
        self.assertEqual(self.state(desk), ahead)


class DrawTest(DeskCase):
    def test_one_point(self):
        desk = desk_of("point eightlet 50", "level")
        for gap in (1, 25, 50):
            self.say(desk, (f"draw {gap}", "eightlet"))

    def test_a_picture(self):
        desk = desk_of("point top 1", "point b 2", "arrow top b 3", "level")
        self.say(desk, ("draw 1", "top\n.\n.\nb"), ("draw 50", "top\n.\n.\nb"))

    def test_the_gap_and_the_halves(self):
        desk = desk_of("point a 1", "point b 2", "level")
        for gap in (1, 2, 9, 10, 49, 50):
            self.say(desk, (f"draw {gap}", "a" + (10 * (3 + gap) - 1) * " " + "b"))

    def test_rows_in_a_good_order(self):
        desk = desk_of("point a", "point b", "point c", "point d", "arrow a d", "arrow b c", "level")
        self.assertEqual([[sign for sign, place in row] for row in read_picture(desk.say("draw 2"))] in (
            [["a", "b"], ["d", "c"]], [["b", "a"], ["c", "d"]]), True)

    def test_rows_ahead_of_the_least_level_are_empty(self):
        # Behind the drop b and c stay where they are, and a goes down to them.
        desk = desk_of("point a", "point b", "point c", "arrow a b 3", "same b c", "level", "drop 0", "same a b")
        self.say(desk, ("again", "length 0 moves 3"), ("levels", "a 3; b 3; c 3"), ("cross", "0 0"))
        text = desk.say("draw 4")
        self.assertEqual(text, "\n\n\na" + 39 * " " + "b" + 39 * " " + "c")

    def test_the_picture_is_that_of_the_functions(self):
        desk, model = Desk(), Model()
        for line in ("point a 3", "point b", "point c 5", "point d", "point e 2", "arrow a b", "arrow b c 1 4",
                     "arrow c a 3", "arrow a d 4", "arrow b d", "arrow e d 2 9", "arrow a e", "level"):
            self.assertEqual(desk.say(line), model.answer(line))
        for gap in (1, 2, 7, 50):
            text = desk.say(f"draw {gap}")
            self.assertEqual(text, model.answer(f"draw {gap}"))
            signs = [sign for row in read_picture(text) for sign, place in row if sign != "."]
            self.assertEqual(sorted(signs), list("abcde"))


class RefusedTest(DeskCase):
    def both(self, desk, kind, **fields):
        for line in ("cross", "draw 1", "draw 50"):
            self.refused(desk, line, kind, **fields)

    def test_points_that_the_kept_levels_do_not_tell_of(self):
        self.both(desk_of("point a"), NoPoint, name="a")
        self.both(desk_of("point b", "point a"), NoPoint, name="b")
        self.both(desk_of("point a", "level", "point c", "point b"), NoPoint, name="c")
        desk = desk_of("point b", "point a", "level", "point c")
        self.both(desk, NoPoint, name="c")
        desk.say("again")
        self.say(desk, ("cross", "0 0"))

    def test_levels_that_no_longer_keep_the_net(self):
        desk = desk_of("point a", "point b", "level", "arrow a b")
        self.both(desk, Stale)
        self.say(desk, ("again", "length 1 moves 1"), ("cross", "0 0"), ("same a b", "ok"))
        self.both(desk, Stale)
        most = desk_of("point a", "point b", "arrow a b 3", "level", "most a b 3")
        self.say(most, ("cross", "0 0"), ("most a b 2", "ok"))
        self.both(most, Stale)

    def test_a_drop_that_turns_an_arrow_back(self):
        desk = desk_of("point a", "point b", "arrow a b", "arrow b a", "level")
        self.say(desk, ("cross", "0 0"), ("drop 0", "ok"))
        self.both(desk, Stale)
        self.say(desk, ("level", "length 1"), ("levels", "a 1; b 0"), ("cross", "0 0"))

    def test_longer_levels_that_still_keep_the_net(self):
        desk = desk_of("point a", "point b", "point c", "arrow a b", "arrow b c 3", "arrow a c", "level", "drop 1")
        self.say(desk, ("cross", "0 0"), ("levels", "a 0; b 1; c 4"))

    def test_too_many_rows(self):
        desk = desk_of("point a", "point b", "arrow a b 19", "level")
        self.say(desk, ("cross", "0 0"), ("draw 1", "a\n" + 18 * ".\n" + "b"), ("drop 0", "ok"),
                 ("arrow a b 20", "arrow 1"), ("level", "length 20"))
        self.both(desk, TooLong)

    def test_too_many_small_ones(self):
        lines = ["point a", "point b", "point c", "arrow a c 2", *["arrow a b 16"] * 3]
        desk = desk_of(*lines, "arrow a b 15", "level")
        self.both(desk, TooLong)
        desk = desk_of(*lines[:3], "arrow a c", *lines[4:], "arrow a b 16", "level")
        self.say(desk, ("cross", "0 0"))
        self.refused(desk, "draw 1", TooMany)

    def test_forty_marks_and_one_more(self):
        lines = [*points_of(20), "arrow a b 19", "arrow a c 3"]
        self.assertEqual(len(read_picture(desk_of(*lines, "level").say("draw 1"))), 20)
        desk = desk_of(*lines, "arrow a d 2", "level")
        self.assertRegex(desk.say("cross"), r"\A\d+ \d+\Z")
        self.refused(desk, "draw 1", TooMany)

    def test_forty_lines_and_one_more(self):
        lines = ["point a", "point b", "point c", *["arrow a b"] * 39]
        self.say(desk_of(*lines, "arrow a c", "level"), ("cross", "0 0"))
        self.assertEqual(len(read_picture(desk_of(*lines, "arrow a c", "level").say("draw 1"))), 2)
        desk = desk_of(*lines, "arrow a c 2", "level")
        self.say(desk, ("cross", "0 0"))
        self.refused(desk, "draw 1", TooMany)

    def test_places_beyond_200(self):
        desk = desk_of("point a 50", "point b 50", "point c", "level")
        self.say(desk, ("draw 25", "a" + 1249 * " " + "b" + 749 * " " + "c"))
        for gap in (26, 50):
            self.refused(desk, f"draw {gap}", TooLong)
        odd = desk_of("point a 50", "point b 50", "point c 1", "level")
        self.refused(odd, "draw 25", TooLong)
        self.assertEqual(read_picture(odd.say("draw 24")), [[("a", 0), ("b", 124), ("c", 199)]])
        self.say(odd, ("cross", "0 0"))

    def test_of_several_refusals_the_first_one(self):
        # A point without a level, levels that do not keep the net, and too many rows.
        desk = desk_of("point a", "point b", "arrow a b 20", "level", "most a b 19", "point c")
        self.both(desk, NoPoint, name="c")
        # Levels that do not keep the net, and too many rows by them.
        desk = desk_of("point a", "point b", "arrow a b 20", "level", "most a b 19")
        self.both(desk, Stale)
        # Too many rows and lines.
        desk = desk_of(*points_of(20, 50), "arrow a b 20", *["arrow a c 2"] * 21, "level")
        self.refused(desk, "draw 50", TooLong)
        # Too many lines, and places beyond 200.
        desk = desk_of(*points_of(20, 50), *["arrow a c 2"] * 21, "level")
        self.refused(desk, "draw 50", TooMany)
        self.assertRegex(desk.say("cross"), r"\A\d+ \d+\Z")
        # The gap is looked at ahead of all.
        for desk in (desk_of("point a"), desk_of("point a", "point b", "level", "arrow a b")):
            self.no_line(desk, "draw 0", "draw 51", "draw 01", "draw", "draw ")


class LinesTest(DeskCase):
    DESK = ["point a", "point b", "arrow a b", "arrow b a", "level"]

    def test_no_line_at_all(self):
        self.no_line(desk_of(*self.DESK), "", " ", "  ", "x", "POINT c", "Level", "points", "line", "ok", "none",
                     "arrows", "a", "0", "\n", "\t", "levelled", "drops 0", "rings 1", "draws 1", "level\n", "\nlevel")

    def test_blanks_ahead_and_behind(self):
        desk = desk_of(*self.DESK)
        for word in ("turned", "level", "again", "levels", "cross", "net"):
            self.no_line(desk, word + " ", " " + word, word + "  ", word + " x", word + " 1", word + " " + word,
                         word + "\n", word + "\t", word.upper())
        for line in ("drop 0", "ring 1", "draw 1", "point c", "point c 1", "same a b", "most a b 3", "arrow a b 1 1"):
            self.no_line(desk, " " + line, "  " + line)
        for line in ("drop 0", "ring 1", "draw 1", "point c 1", "same a b", "most a b 3", "arrow a b", "arrow a b 1",
                     "arrow a b 1 1", "point c"):
            self.no_line(desk, line + " ", line + "  ", line + " x")

    def test_two_blanks(self):
        desk = desk_of(*self.DESK)
        self.no_line(desk, "drop  0", "ring  1", "draw  1", "most a b  3", "most  a b 3", "same  a b", "same a  b",
                     "point  c", "arrow a b  1", "arrow a b 1  1", "point c  1", "arrow  a b", "most a  b 3",
                     "arrow a  b")
        # A word without signs stands between the two blanks.
        self.refused(desk, "point  1", NoName)
        self.refused(desk, "same  b", NoPoint, name="")
        self.refused(desk, "arrow  b", NoPoint, name="")
        self.refused(desk, "arrow a  1", NoPoint, name="")
        self.refused(desk, "arrow a  1 1", NoPoint, name="")
        self.refused(desk, "most  a 3", NoPoint, name="")
        self.refused(desk, "most a  3", NoPoint, name="")

    def test_a_blank_at_the_end(self):
        desk = desk_of(*self.DESK)
        self.refused(desk, "point ", NoName)
        self.refused(desk, "same a ", NoPoint, name="")
        self.refused(desk, "arrow a ", NoPoint, name="")
        self.refused(desk, "arrow  ", NoPoint, name="")
        self.no_line(desk, "same ", "arrow ", "most ", "most a ", "most a b ", "drop ", "ring ", "draw ")

    def test_words_left_out(self):
        desk = desk_of(*self.DESK)
        self.no_line(desk, "point", "arrow", "same", "most", "drop", "ring", "draw", "arrow a", "same a", "most a",
                     "most a b", "most a 3")

    def test_words_too_many(self):
        desk = desk_of(*self.DESK)
        self.no_line(desk, "point c 1 1", "arrow a b 1 1 1", "same a b 1", "same a b a", "most a b 3 3", "drop 0 0",
                     "drop 0 1", "ring 1 1", "draw 1 1", "turned 1", "levels a")

    def test_numbers(self):
        desk = desk_of(*self.DESK)
        for written in ("00", "01", "007", "0000000", "10000000", "12345678", "00000001", "-1", "+1", "1.0", "1_0", "a",
                        "0x1", "\u0663", "\u00b2", "1\n", "\t1", "", "one", "-0", "1e1"):
            self.no_line(desk, *[ahead + written for ahead in (
                "drop ", "ring ", "draw ", "point c ", "arrow a b ", "arrow a b 1 ", "most a b ")])
        for ahead in ("drop ", "ring "):
            self.refused(desk, ahead + "9999999", NoSuch, number=9999999)
            self.refused(desk, ahead + "1000000", NoSuch, number=1000000)
        self.refused(desk, "most a b 9999999", NoNumber)
        self.refused(desk, "point c 9999999", NoNumber)
        self.refused(desk, "arrow a b 1 9999999", NoNumber)

    def test_not_written_so_comes_ahead_of_what_the_net_refuses(self):
        self.no_line(desk_of(*self.DESK), "point A 01", "point a x", "arrow x y 01", "arrow a a 1 12345678",
                     "most x y 03", "same x y z", "drop 09")

    def test_gaps(self):
        desk = desk_of("point a", "point b", "arrow a b", "level")
        self.no_line(desk, "draw 0", "draw 51", "draw 100", "draw 9999999", "draw -1", "draw 050")
        for gap in (1, 2, 49, 50):
            self.say(desk, (f"draw {gap}", "a\nb"))

    def test_words_of_any_signs_are_names(self):
        desk = desk_of(*self.DESK)
        self.refused(desk, "point a\npoint", NoName)
        self.refused(desk, "same a\t b", NoPoint, name="a\t")
        self.refused(desk, "same a \u00a0b", NoPoint, name="\u00a0b")


class ManyLinesTest(DeskCase):
    def random_line(self, chance, names):
        name = lambda: chance.choice(names * 6 + list("abcdefgxyz") + ["", "A"])
        number = lambda *numbers: chance.choice(numbers * 3 + ("01", "12345678", ""))
        sort = chance.randrange(16)
        if sort == 0:
            return chance.choice((f"point {name()}", f"point {name()} {number(0, 1, 7, 50, 51)}"))
        if sort < 6:
            ends = f"arrow {name()} {name()}"
            span, weight = number(1, 1, 2, 3, 0, 21), number(1, 5, 1000000, 0, 1000001)
            return chance.choice((ends, ends, f"{ends} {span}", f"{ends} {span} {weight}"))
        if sort == 6:
            return chance.choice((f"same {name()} {name()}", f"most {name()} {name()} {number(2, 5, 99, 100)}"))
        if sort < 9:
            return f"{chance.choice(('drop', 'ring'))} {number(*range(20))}"
        if sort == 9:
            return f"draw {number(1, 2, 5, 50, 0, 51)}"
        line = chance.choice(("turned", "level", "again", "again", "levels", "cross", "draw 1", "draw 2", "net"))
        return line + chance.choice(("", "", "", "", "", "", "", "", " ", " x"))

    def outcome(self, told, line):
        try:
            return told(line)
        except DrawError as refusal:
            return type(refusal), vars(refusal)

    def test_many_lines(self):
        chance = random.Random(99)
        met = {}
        for time in range(60):
            desk, model = Desk(), Model()
            for name in "abcdefg"[:chance.randint(0, 7)]:
                self.assertEqual(desk.say(f"point {name}"), model.answer(f"point {name}"))
            for step in range(80):
                line = self.random_line(chance, model.net.points())
                answer = self.outcome(desk.say, line)
                self.assertEqual(answer, self.outcome(model.answer, line), line)
                for word in ("net", "levels", "turned"):
                    self.assertEqual(desk.say(word), model.answer(word), line)
                key = (line.split(" ")[0], answer[0].__name__ if type(answer) is tuple else "answered")
                met[key] = met.get(key, 0) + 1
        for line, kind in (("level", "Ring"), ("again", "Ring"), ("cross", "NoPoint"), ("cross", "Stale"),
                           ("draw", "NoPoint"), ("draw", "Stale"), ("draw", "NoLine"), ("drop", "NoSuch"),
                           ("ring", "NoSuch"), ("ring", "answered"), ("draw", "answered"), ("cross", "answered"),
                           ("again", "answered")):
            self.assertGreater(met.get((line, kind), 0), 4, (line, kind))


if __name__ == "__main__":
    unittest.main()
