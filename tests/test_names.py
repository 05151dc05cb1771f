import unittest

from tariffgate.names import begins, is_name, is_number, is_prefix, nearest
from things import named, no_wholes


class Names(unittest.TestCase):
    def test_one_to_eight_small_letters(self):
        for text in ("a", "z", "m", "iron", "abcdefgh", "zzzzzzzz", "aaaaaaa"):
            with self.subTest(text):
                self.assertIs(is_name(text), True)

    def test_none_and_nine(self):
        for text in ("", "abcdefghi", "a" * 9, "a" * 1000):
            with self.subTest(text):
                self.assertIs(is_name(text), False)

    def test_every_sign(self):
        for code in range(ord(" "), ord("~") + 1):
            sign = chr(code)
            small = sign in "abcdefghijklmnopqrstuvwxyz"
            for text in (sign, sign + "b", "b" + sign, "b" + sign + "b", "bbbbbbb" + sign):
                with self.subTest(text):
                    self.assertIs(is_name(text), small)

    def test_things_of_any_kind(self):
        for thing in no_wholes() + [0, 1, ["a"], ("a",), {"a": 1}, b"iron", bytearray(b"iron")]:
            if isinstance(thing, str) and thing == "a":
                continue
            with self.subTest(named(thing)):
                self.assertIs(is_name(thing), False)


class Numbers(unittest.TestCase):
    def told(self, thing, number, prefix):
        with self.subTest(named(thing)):
            self.assertIs(is_number(thing), number)
            self.assertIs(is_prefix(thing), prefix)

    def test_of_none_to_five_parts(self):
        self.told((), False, True)
        for many in (1, 2, 3, 4):
            self.told((84, 71, 1, 99)[:many], True, True)
        self.told((84, 71, 1, 99, 5), False, False)
        self.told((1,) * 5, False, False)
        self.told((1,) * 1000, False, False)

    def test_parts_at_the_bounds_in_each_place(self):
        for many in (1, 2, 3, 4):
            for place in range(many):
                for part, good in ((1, True), (99, True), (0, False), (100, False), (-1, False), (10 ** 60, False)):
                    parts = [5] * many
                    parts[place] = part
                    self.told(tuple(parts), good, good)

    def test_things_of_any_kind_in_each_place(self):
        for thing in no_wholes():
            for many in (1, 2, 3, 4):
                for place in range(many):
                    parts = [5] * many
                    parts[place] = thing
                    self.told(tuple(parts), False, False)

    def test_a_list_is_no_tuple(self):
        for thing in ([], [84], [84, 71], [1, 1, 1, 1]):
            self.told(thing, False, False)

    def test_things_of_any_kind(self):
        for thing in no_wholes() + [0, 1, 84, "84.71", {84: 71}, frozenset([84])]:
            if not isinstance(thing, tuple):
                self.told(thing, False, False)


class Begins(unittest.TestCase):
    def test_nothing_begins_each(self):
        for number in ((1,), (84, 71), (84, 71, 1), (99, 99, 99, 99)):
            self.assertIs(begins((), number), True)

    def test_each_begins_itself(self):
        for number in ((1,), (84, 71), (84, 71, 1), (99, 99, 99, 99)):
            self.assertIs(begins(number, number), True)

    def test_the_first_parts(self):
        number = (84, 71, 1, 9)
        for many in range(5):
            self.assertIs(begins(number[:many], number), True)

    def test_other_parts(self):
        number = (84, 71, 1, 9)
        for prefix in ((85,), (71,), (84, 72), (85, 71), (84, 71, 2), (71, 1), (84, 71, 1, 8), (84, 1), (8,), (9,)):
            with self.subTest(prefix):
                self.assertIs(begins(prefix, number), False)

    def test_longer_ones_do_not(self):
        self.assertIs(begins((84, 71), (84,)), False)
        self.assertIs(begins((84, 71, 1), (84, 71)), False)
        self.assertIs(begins((1, 1, 1, 1), (1,)), False)
        self.assertIs(begins((84, 71, 1, 9), (84, 71, 1)), False)


class Nearest(unittest.TestCase):
    def test_the_longest_in_any_order(self):
        self.assertEqual(nearest([(), (84,), (84, 71)], (84, 71, 1)), 2)
        self.assertEqual(nearest([(84, 71), (84,), ()], (84, 71, 1)), 0)
        self.assertEqual(nearest([(84,), (84, 71), ()], (84, 71, 1)), 1)
        self.assertEqual(nearest([(), (84,), (84, 71)], (84, 72)), 1)
        self.assertEqual(nearest([(), (84,), (84, 71)], (85, 71)), 0)

    def test_the_number_itself_and_longer_ones(self):
        self.assertEqual(nearest([(84,), (84, 71), (84, 71, 1)], (84, 71)), 1)
        self.assertEqual(nearest([(84, 71, 1), (84, 71, 2)], (84, 71)), None)
        self.assertEqual(nearest([(84, 71, 1), ()], (84, 71)), 1)
        self.assertEqual(nearest([(1, 2, 3), (1, 2, 3, 4)], (1, 2, 3, 4)), 1)

    def test_of_the_same_the_first(self):
        self.assertEqual(nearest([(84,), (84,)], (84, 71)), 0)
        self.assertEqual(nearest([(), ()], (84, 71)), 0)
        self.assertEqual(nearest([(), (84,), (), (84,)], (84, 71)), 1)
        self.assertEqual(nearest([(85,), (84, 71), (84,), (84, 71)], (84, 71)), 1)

    def test_none(self):
        self.assertIsNone(nearest([], (84,)))
        self.assertIsNone(nearest([(85,), (84, 71)], (84,)))
        self.assertIsNone(nearest([(71,), (84, 72)], (84, 71)))

    def test_only_the_one_that_begins_each(self):
        self.assertEqual(nearest([()], (84,)), 0)
        self.assertEqual(nearest([(85,), ()], (84,)), 1)

    def test_the_list_stays(self):
        prefixes = [(84, 71), (), (84,)]
        nearest(prefixes, (84, 71, 1))
        nearest(prefixes, (1,))
        self.assertEqual(prefixes, [(84, 71), (), (84,)])


if __name__ == "__main__":
    unittest.main()
