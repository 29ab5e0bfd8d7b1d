import unittest

from layerdraw.items import Item, Own, Small


class ItemsTest(unittest.TestCase):
    def test_an_own_item(self):
        item = Own("abc", 7)
        self.assertEqual((item.name, item.wide), ("abc", 7))
        self.assertEqual((item.label(), item.half(), item.drawn()), ("abc", 7, "abc"))

    def test_an_own_item_at_the_edges(self):
        self.assertEqual(Own("a", 0).half(), 0)
        widest = Own("abcdefgh", 50)
        self.assertEqual((widest.label(), widest.half(), widest.drawn()), ("abcdefgh", 50, "abcdefgh"))

    def test_a_small_item(self):
        item = Small(3, 2)
        self.assertEqual((item.arrow, item.step), (3, 2))
        self.assertEqual((item.label(), item.half(), item.drawn()), ("3.2", 0, "."))

    def test_a_small_item_with_longer_numbers(self):
        self.assertEqual(Small(0, 1).label(), "0.1")
        self.assertEqual(Small(120, 18).label(), "120.18")
        self.assertEqual(Small(120, 18).drawn(), ".")

    def test_labels_are_texts(self):
        self.assertIs(type(Own("a", 1).label()), str)
        self.assertIs(type(Small(1, 1).label()), str)

    def test_each_is_an_item_of_just_its_own_class(self):
        own = Own("a", 1)
        small = Small(0, 1)
        self.assertIsInstance(own, Item)
        self.assertIsInstance(small, Item)
        self.assertNotIsInstance(own, Small)
        self.assertNotIsInstance(small, Own)
        self.assertEqual((Own.__bases__, Small.__bases__), ((Item,), (Item,)))

    def test_two_items_have_their_own_fields(self):
        first = Own("a", 1)
        second = Own("b", 2)
        self.assertEqual((first.label(), first.half()), ("a", 1))
        self.assertEqual((second.label(), second.half()), ("b", 2))


if __name__ == "__main__":
    unittest.main()
