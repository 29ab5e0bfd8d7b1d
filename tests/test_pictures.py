import inspect
import random
import re
import unittest

from layerdraw import pictures as module
from layerdraw.errors import NoLine, TooLong
from layerdraw.items import Own, Small
from layerdraw.levels import halves_of, levelled, marks_of, pairs_of, rows_of
from layerdraw.orders import settled, swept
from layerdraw.pictures import picture, read_picture, strokes
from layerdraw.sideways import sideways
from made import net_of


def label_of(item):
    return item.name if isinstance(item, Own) else f"{item.arrow}.{item.step}"


def sign_of(item):
    return item.name if isinstance(item, Own) else "."


def picture_by_the_words(rows, places):
    """[8.1], column by column."""
    lines = []
    for row in rows:
        signs = {}
        for item in row:
            for k, sign in enumerate(sign_of(item)):
                signs[10 * places[label_of(item)] + k] = sign
        lines.append("".join(signs.get(column, " ") for column in range(max(signs, default=-1) + 1)))
    return "\n".join(lines)


def signs_and_places(rows, places):
    return [[(sign_of(item), places[label_of(item)]) for item in row] for row in rows]


def random_rows(chance, widths):
    """Rows of so many items each, at rising places, and the places by label, with some of no item."""
    names = [f"{one}{other}" * chance.choice((1, 4)) for one in "abcdefgh" for other in "rstuvw"]
    chance.shuffle(names)
    rows, places = [], {"nobody": -1, "99.1": 201}
    for row, width in enumerate(widths):
        rows.append([])
        for place in sorted(chance.sample(range(201), width)):
            own = chance.random() < 0.6
            rows[-1].append(Own(names.pop(), chance.randint(0, 50)) if own else Small(len(places), row + 1))
            places[label_of(rows[-1][-1])] = place
    return rows, places


class PictureCase(unittest.TestCase):
    def look_at(self, rows, places):
        """Checks the picture and what is read of it, and tells the picture."""
        handed = ([list(row) for row in rows], dict(places))
        text = picture(rows, places)
        self.assertIs(type(text), str)
        self.assertEqual(text, picture_by_the_words(rows, places))
        if rows:
            read = read_picture(text)
            self.assertEqual(read, signs_and_places(rows, places))
            self.assertEqual((type(read), {type(row) for row in read}), (list, {list}))
            self.assertTrue(all(type(sign) is tuple for row in read for sign in row))
        self.assertEqual((rows, places), handed)
        return text


class PictureTest(PictureCase):
    def test_the_names_and_arguments(self):
        for name, parameters in (("picture", "(rows, places)"), ("read_picture", "(text)"),
                                 ("strokes", "(rows, lines, places)")):
            self.assertEqual(str(inspect.signature(getattr(module, name))), parameters)

    def test_no_rows_and_rows_without_items(self):
        self.assertEqual(picture([], {}), "")
        self.assertEqual(self.look_at([[]], {}), "")
        self.assertEqual(self.look_at([[], []], {}), "\n")
        self.assertEqual(self.look_at([[], [], []], {"a": 3}), "\n\n")

    def test_rows_without_items_first_last_and_between(self):
        a, b = Own("a", 0), Own("b", 0)
        self.assertEqual(self.look_at([[], [a]], {"a": 0}), "\na")
        self.assertEqual(self.look_at([[a], []], {"a": 1}), "          a\n")
        self.assertEqual(self.look_at([[a], [], [b]], {"a": 0, "b": 0}), "a\n\nb")
        self.assertEqual(self.look_at([[], [], [a], [], [], [b], [], []], {"a": 0, "b": 0}), "\n\na\n\n\nb\n\n")

    def test_names_of_one_and_of_eight_letters(self):
        row = [Own("a", 3), Own("eightlet", 50), Own("b", 0), Own("abcdefgh", 7)]
        places = {"a": 0, "eightlet": 1, "b": 2, "abcdefgh": 3}
        self.assertEqual(self.look_at([row], places), "a         eightlet  b         abcdefgh")

    def test_small_ones_are_drawn_as_points(self):
        row = [Small(0, 1), Small(12, 3), Own("a", 0), Small(3, 19)]
        places = {"0.1": 0, "12.3": 1, "a": 2, "3.19": 4}
        self.assertEqual(self.look_at([row], places), ".         .         a                   .")

    def test_no_blank_behind_the_last_item(self):
        text = self.look_at([[Own("a", 50)], [Own("eightlet", 50), Small(0, 1)]], {"a": 3, "eightlet": 0, "0.1": 1})
        self.assertEqual(text, 30 * " " + "a\neightlet  .")

    def test_halves_take_no_room(self):
        self.assertEqual(picture([[Own("a", 50), Own("b", 50)]], {"a": 0, "b": 1}), "a         b")

    def test_places_0_and_200(self):
        a, b, small = Own("a", 0), Own("b", 0), Small(7, 1)
        text = self.look_at([[a, b], [small]], {"a": 0, "b": 200, "7.1": 200})
        self.assertEqual(text, "a" + 1999 * " " + "b\n" + 2000 * " " + ".")

    def test_rows_may_stand_at_one_place(self):
        rows = [[Own("a", 0)], [Own("b", 0)], [Small(1, 2)]]
        self.assertEqual(self.look_at(rows, {"a": 5, "b": 5, "1.2": 5}).count(" "), 150)

    def test_places_of_others_do_not_count(self):
        self.assertEqual(self.look_at([[Own("a", 0)]], {"b": 201, "a": 0, "0.1": -1}), "a")

    def test_many_pictures(self):
        chance = random.Random(85)
        for time in range(100):
            self.look_at(*random_rows(chance, [chance.randint(0, 5) for row in range(chance.randint(0, 6))]))

    def test_a_net_drawn(self):
        net = net_of("point top 3", "point b", "point c 5", "point last", "arrow top b", "arrow b c 1 4",
                     "arrow c top 3", "arrow top last 4", "arrow b last")
        rows, lines = rows_of(net, levelled(net)[0])
        marks = settled(swept(marks_of(rows), pairs_of(lines)), pairs_of(lines))[0]
        places = sideways(marks, halves_of(rows), lines, 1)[0]
        ordered = [sorted(row, key=lambda item: places[item.label()]) for row in rows]
        text = self.look_at(ordered, places)
        self.assertEqual([[sign if sign != "." else None for sign, place in row] for row in read_picture(text)],
                         [[mark if mark.isalpha() else None for mark in row] for row in marks])


class TooLongTest(unittest.TestCase):
    def refused(self, rows, places):
        handed = ([list(row) for row in rows], dict(places))
        with self.assertRaises(TooLong) as taken:
            picture(rows, places)
        self.assertIs(type(taken.exception), TooLong)
        self.assertEqual((rows, places), handed)

    def test_places_beyond(self):
        a, b, small = Own("a", 0), Own("b", 0), Small(7, 1)
        for place in (-1, 201, -2, 202, -10 ** 6, 10 ** 6):
            self.refused([[a]], {"a": place})
            self.refused([[small]], {"7.1": place})
            self.refused([[], [b], [small], [a]], {"b": 0, "7.1": 200, "a": place})
        self.refused([[a, b]], {"a": -1, "b": 0})
        self.refused([[a, b]], {"a": 200, "b": 201})
        self.refused([[a, small, b]], {"a": 0, "7.1": 5, "b": 201})


class ReadPictureTest(unittest.TestCase):
    def refused(self, number, text):
        for time in range(2):
            with self.assertRaises(NoLine, msg=repr(text)) as taken:
                read_picture(text)
            self.assertIs(type(taken.exception), NoLine)
            self.assertEqual((type(taken.exception.number), taken.exception.number), (int, number), repr(text))

    def no_line(self, line):
        """Refused by itself, and wherever it stands among lines that are some."""
        self.refused(0, line)
        self.refused(0, line + "\na")
        self.refused(1, "\n" + line)
        self.refused(2, "a\n.         b\n" + line + "\n\nc")
        self.refused(1, "a\n" + line + "\n" + line)

    def test_the_text_without_signs(self):
        self.assertEqual(read_picture(""), [[]])
        self.assertEqual(read_picture("\n"), [[], []])

    def test_rows_without_items_first_last_and_between(self):
        self.assertEqual(read_picture("\na"), [[], [("a", 0)]])
        self.assertEqual(read_picture("a\n"), [[("a", 0)], []])
        self.assertEqual(read_picture("\n\na\n\n."), [[], [], [("a", 0)], [], [(".", 0)]])

    def test_words_at_their_columns(self):
        self.assertEqual(read_picture("a         eightlet  ."), [[("a", 0), ("eightlet", 1), (".", 2)]])
        self.assertEqual(read_picture(20 * " " + "b" + 29 * " " + "."), [[("b", 2), (".", 5)]])
        self.assertEqual(read_picture("abcdefgh  abcdefgh"), [[("abcdefgh", 0), ("abcdefgh", 1)]])
        self.assertEqual(read_picture(2000 * " " + "zz"), [[("zz", 200)]])

    def test_a_place_beyond_is_none_of_the_refusals(self):
        self.assertEqual(read_picture(2010 * " " + "a"), [[("a", 201)]])

    def test_words_that_are_neither_a_name_nor_a_point(self):
        for word in ("A", "a1", "0", "..", "a.", ".a", "0.1", "abcdefghi", "a_b", "a-b", "\t", "a\t", "\u00e4", "ab\r",
                     ";", "\u2028", "\x0b", "\xa0", "'", "aB", "\u0430"):
            self.no_line(word)
            self.no_line(10 * " " + word)
            self.no_line("a         " + word)
            self.no_line(word + (10 - len(word)) * " " + "a")

    def test_columns_that_are_no_ten_times_a_number(self):
        for column in (1, 2, 5, 9, 11, 19, 101, 1999, 2001):
            self.no_line(column * " " + "a")
            self.no_line(column * " " + ".")
        for blanks in (1, 2, 7, 8, 10, 11, 18, 20):
            self.no_line("a" + blanks * " " + "b")
            self.no_line("." + blanks * " " + "." + (9 - blanks) % 10 * " " + "c")
        self.no_line("a          b        c")
        self.no_line("eightlet b")
        self.no_line("eightlet   b")

    def test_a_blank_at_the_end(self):
        for line in ("a ", ". ", " ", "  ", 10 * " ", 20 * " ", "a         ", "a         b ", "eightlet  "):
            self.no_line(line)

    def test_the_first_such_line_is_told(self):
        self.refused(1, "a\n b\na \nA")
        self.refused(3, "\n\n\na \n b\nB")
        self.refused(2, ".\n.\nA\n.\n.")

    def test_many_texts_changed_by_a_sign(self):
        chance = random.Random(86)
        refused = 0
        for time in range(300):
            rows, places = random_rows(chance, [chance.randint(0, 3) for row in range(chance.randint(1, 4))])
            text = picture(rows, places)
            at = chance.randint(0, len(text))
            changed = text[:at] + chance.choice((" ", ".", "a", "\n", "A")) + text[at + chance.randint(0, 1):]
            first = self.first_by_the_words(changed)
            if first is not None:
                self.refused(first, changed)
                refused += 1
            else:
                self.assertEqual(len(read_picture(changed)), changed.count("\n") + 1)
        self.assertGreater(refused, 100)
        self.assertLess(refused, 290)

    def first_by_the_words(self, text):
        """[8.2]: the number of the first line that is none, looked at from blank to blank."""
        for number, line in enumerate(text.split("\n")):
            starts = [k for k in range(len(line)) if line[k] != " " and (k == 0 or line[k - 1] == " ")]
            words = line.split(" ")
            for word in words:
                if word not in ("", ".") and not re.fullmatch("[a-z]{1,8}", word):
                    return number
            if any(start % 10 for start in starts) or line[-1:] == " ":
                return number
        return None


class StrokesTest(unittest.TestCase):
    def test_nothing_to_stroke(self):
        self.assertEqual(strokes([], [], {}), [])
        self.assertEqual(strokes([[], [Own("a", 3)]], [], {"a": 4}), [])

    def test_line_by_line(self):
        rows = [[Own("a", 2)], [Small(1, 1), Own("b", 3)], [Own("c", 0), Small(2, 1)], [], [Own("d", 1)], [Own("e", 0)]]
        places = {"a": 3, "1.1": 0, "b": 7, "c": 11, "2.1": 200, "d": 4, "e": 9}
        lines = [("d", "e", 5), ("a", "1.1", 2), ("1.1", "c", 2), ("a", "b", 1), ("b", "2.1", 8), ("a", "b", 1)]
        self.assertEqual(strokes(rows, lines, places), [
            (4, 4, 9, 5), (3, 0, 0, 1), (0, 1, 11, 2), (3, 0, 7, 1), (7, 1, 200, 2), (3, 0, 7, 1),
        ])

    def test_rows_and_places_of_a_net(self):
        net = net_of("point a 2", "point b", "point c 5", "arrow a b", "arrow a c 3 4", "arrow c a", "arrow b c")
        rows, lines = rows_of(net, {"a": 1, "b": 2, "c": 4})
        places = sideways(marks_of(rows), halves_of(rows), lines, 3)[0]
        told = strokes(rows, lines, places)
        self.assertIs(type(told), list)
        for stroke in told:
            self.assertEqual((type(stroke), [type(number) for number in stroke]), (tuple, [int] * 4))
        self.assertEqual([(stroke[1], stroke[3]) for stroke in told],
                         [(1, 2), (1, 2), (2, 3), (3, 4), (1, 2), (2, 3), (3, 4), (2, 3), (3, 4)])
        self.assertEqual([(stroke[0], stroke[2]) for stroke in told],
                         [(places[upper], places[lower]) for upper, lower, weight in lines])

    def test_many_nets(self):
        chance = random.Random(87)
        for time in range(60):
            names = "abcdefg"[:chance.randint(2, 7)]
            net = net_of(*[f"point {name}" for name in names])
            for arrow in range(chance.randint(0, 8)):
                net.put_arrow(*chance.sample(names, 2), chance.randint(1, 2))
            top = chance.randint(0, 2)
            rows, lines = rows_of(net, {name: level + top for name, level in levelled(net)[0].items()})
            places = {mark: chance.randint(0, 200) for row in marks_of(rows) for mark in row}
            at = {mark: row for row, marks in enumerate(marks_of(rows)) for mark in marks}
            told = strokes(rows, lines, places)
            self.assertEqual(told, [(places[high], at[high], places[low], at[low]) for high, low, weight in lines])
            self.assertTrue(all(stroke[3] == stroke[1] + 1 for stroke in told))


class AskersOwnTest(unittest.TestCase):
    def handed(self):
        rows = [[Own("a", 2)], [Small(1, 1), Own("b", 3)]]
        return rows, [("a", "1.1", 2), ("a", "b", 1)], {"a": 3, "1.1": 0, "b": 7}

    def told(self, rows, lines, places):
        return [picture(rows, places), read_picture(picture(rows, places)), strokes(rows, lines, places)]

    def plain(self, rows, lines, places):
        return [[vars(item) for item in row] for row in rows], lines, places

    def test_the_same_asked_twice(self):
        handed = self.handed()
        self.assertEqual(self.told(*handed), self.told(*handed))
        self.assertEqual(self.told(*handed), self.told(*self.handed()))
        self.assertEqual(self.plain(*handed), self.plain(*self.handed()))

    def test_what_the_asker_does_to_what_is_told_changes_nothing(self):
        handed = self.handed()
        first = self.told(*handed)
        text, read, stroked = self.told(*handed)
        read[0].append((".", 9))
        read.pop()
        stroked.clear()
        self.assertEqual(self.plain(*handed), self.plain(*self.handed()))
        self.assertEqual(self.told(*handed), first)

    def test_what_is_handed_in_changed_behind_the_call(self):
        rows, lines, places = self.handed()
        told = self.told(rows, lines, places)
        rows[1].reverse()
        rows[0][0].name = "z"
        rows.pop()
        lines.clear()
        places["a"] = 100
        self.assertEqual(told, self.told(*self.handed()))


if __name__ == "__main__":
    unittest.main()
