import unittest

from layerdraw import errors
from layerdraw.errors import (
    Alone, DrawError, NoFlow, NoLine, NoName, NoNumber, NoPoint, NoSuch, Ring, Stale, Taken, TooLong, TooMany,
)

WITHOUT_FIELDS = [NoName, Taken, Alone, NoNumber, TooMany, NoFlow, TooLong, Stale]
WITH_FIELDS = [(NoPoint, "name", "ab"), (NoSuch, "number", 7), (NoLine, "number", 0), (Ring, "ring", [2, 0, 1])]
ALL = WITHOUT_FIELDS + [row[0] for row in WITH_FIELDS]


class ErrorsTest(unittest.TestCase):
    def test_twelve_stand_straight_under_draw_error(self):
        self.assertEqual(len(set(ALL)), 12)
        self.assertEqual(DrawError.__bases__, (ValueError,))
        for kind in ALL:
            self.assertEqual(kind.__bases__, (DrawError,), kind)

    def test_the_module_holds_no_other_refusal(self):
        told = [value for value in vars(errors).values() if isinstance(value, type) and issubclass(value, DrawError)]
        self.assertEqual(sorted(kind.__name__ for kind in told), sorted(kind.__name__ for kind in ALL + [DrawError]))

    def test_none_stands_under_another(self):
        for kind in ALL:
            for other in ALL:
                self.assertEqual(issubclass(kind, other), kind is other, (kind, other))

    def test_those_without_fields(self):
        for kind in WITHOUT_FIELDS:
            refusal = kind()
            self.assertIsInstance(refusal, DrawError)
            self.assertIsInstance(refusal, ValueError)
            self.assertEqual(vars(refusal), {}, kind)
            with self.assertRaises(kind):
                raise refusal

    def test_those_with_fields(self):
        for kind, field, value in WITH_FIELDS:
            refusal = kind(value)
            self.assertIsInstance(refusal, DrawError)
            self.assertIsInstance(refusal, ValueError)
            self.assertEqual(vars(refusal), {field: value}, kind)
            with self.assertRaises(kind) as taken:
                raise refusal
            self.assertEqual(getattr(taken.exception, field), value)

    def test_fields_are_needed(self):
        for kind, field, value in WITH_FIELDS:
            with self.assertRaises(TypeError):
                kind()

    def test_two_of_a_kind_have_their_own_fields(self):
        first = NoPoint("a")
        second = NoPoint("b")
        self.assertEqual((first.name, second.name), ("a", "b"))

    def test_a_ring_is_not_changed_behind_its_making(self):
        handed = [0, 1]
        refusal = Ring(handed)
        handed.append(2)
        self.assertEqual(refusal.ring, [0, 1])
        refusal.ring.append(9)
        self.assertEqual(handed, [0, 1, 2])


if __name__ == "__main__":
    unittest.main()
