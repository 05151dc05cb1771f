import math
import unittest
from fractions import Fraction

from tariffgate.errors import NoNumber
from tariffgate.shares import (
    common_of, is_share, is_whole, minus, plus, share_of, times, total_of, under, whole_of,
)
from things import named, no_wholes

LARGE = 10 ** 60 + 7
SHARES = [
    (0, 1), (1, 1), (-1, 1), (1, 2), (-1, 2), (1, 3), (2, 3), (-2, 3), (7, 4), (-7, 4), (5, 6), (5, 1), (-5, 1),
    (LARGE, 3), (-LARGE, 10 ** 30), (1, LARGE),
]


def told(fraction):
    return (fraction.numerator, fraction.denominator)


class Wholes(unittest.TestCase):
    def test_ints_are_whole(self):
        for number in (0, 1, -1, 99, -99, LARGE, -LARGE, 10 ** 5000):
            self.assertIs(is_whole(number), True)

    def test_nothing_else_is(self):
        for thing in no_wholes():
            with self.subTest(named(thing)):
                self.assertIs(is_whole(thing), False)


class Common(unittest.TestCase):
    def test_of_nought(self):
        self.assertEqual(common_of(0, 0), 0)
        for other in (1, -1, 12, -12, LARGE, -LARGE):
            self.assertEqual(common_of(0, other), abs(other))
            self.assertEqual(common_of(other, 0), abs(other))

    def test_of_either_sign(self):
        for one in range(-40, 41):
            for other in range(-40, 41):
                self.assertEqual(common_of(one, other), math.gcd(one, other))

    def test_of_sixty_figures(self):
        one = 6 * 10 ** 59
        other = 2 ** 150 * 3 ** 31 * 7
        for first in (one, -one):
            for second in (other, -other):
                self.assertEqual(common_of(first, second), math.gcd(one, other))
        self.assertEqual(common_of(LARGE * 6, LARGE * 35), LARGE)
        self.assertEqual(common_of(LARGE, LARGE), LARGE)
        self.assertEqual(common_of(LARGE, LARGE + 1), 1)


class Made(unittest.TestCase):
    def test_in_lowest_terms(self):
        self.assertEqual(share_of(6, 4), (3, 2))
        self.assertEqual(share_of(4, 2), (2, 1))
        self.assertEqual(share_of(3, 7), (3, 7))
        self.assertEqual(share_of(LARGE * 4, LARGE * 6), (2, 3))

    def test_of_each_sign(self):
        self.assertEqual(share_of(-6, 4), (-3, 2))
        self.assertEqual(share_of(6, -4), (-3, 2))
        self.assertEqual(share_of(-6, -4), (3, 2))

    def test_nought_has_one_form(self):
        for bottom in (1, -1, 5, -5, LARGE, -LARGE):
            self.assertEqual(share_of(0, bottom), (0, 1))

    def test_of_many(self):
        for top in range(-25, 26):
            for bottom in range(-25, 26):
                if bottom != 0:
                    self.assertEqual(share_of(top, bottom), told(Fraction(top, bottom)))

    def test_a_bottom_of_nought_is_refused(self):
        for top in (0, 1, -1, LARGE, True, None, "a"):
            with self.subTest(top=top), self.assertRaises(NoNumber):
                share_of(top, 0)

    def test_what_is_no_whole_number_is_refused(self):
        for thing in no_wholes():
            for top, bottom in ((thing, 1), (1, thing), (0, thing), (thing, 0), (thing, thing)):
                with self.subTest(named(thing)), self.assertRaises(NoNumber):
                    share_of(top, bottom)


class IsShare(unittest.TestCase):
    def test_shares(self):
        for share in SHARES:
            self.assertIs(is_share(share), True)

    def test_what_is_made_is_one(self):
        for top in range(-12, 13):
            for bottom in range(-12, 13):
                if bottom != 0:
                    self.assertIs(is_share(share_of(top, bottom)), True)

    def test_tuples_that_are_none(self):
        for thing in (
            (), (1,), (1, 2, 3), (0, 0), (0, 2), (1, 0), (2, 4), (-2, 4), (1, -2), (-1, -2), (0, -1), (2, 0),
            (LARGE * 2, LARGE), (3, 3), (-3, 3), ((1, 2), (1, 2)),
        ):
            with self.subTest(thing):
                self.assertIs(is_share(thing), False)

    def test_a_list_is_none(self):
        self.assertIs(is_share([1, 2]), False)
        self.assertIs(is_share([0, 1]), False)

    def test_things_of_any_kind(self):
        for thing in no_wholes() + [0, 1, "12", {1: 2, 3: 4}]:
            if isinstance(thing, tuple) and thing == (1, 1):
                continue
            with self.subTest(named(thing)):
                self.assertIs(is_share(thing), False)

    def test_things_of_any_kind_within(self):
        for thing in no_wholes():
            with self.subTest(named(thing)):
                self.assertIs(is_share((thing, 1)), False)
                self.assertIs(is_share((1, thing)), False)
                self.assertIs(is_share((thing, thing)), False)


class Reckoned(unittest.TestCase):
    def test_by_hand(self):
        self.assertEqual(plus((1, 2), (1, 6)), (2, 3))
        self.assertEqual(minus((1, 2), (2, 3)), (-1, 6))
        self.assertEqual(times((-2, 3), (3, 4)), (-1, 2))
        self.assertEqual(plus((1, 2), (-1, 2)), (0, 1))
        self.assertEqual(minus((7, 4), (7, 4)), (0, 1))
        self.assertEqual(times((0, 1), (-7, 4)), (0, 1))

    def test_of_all_pairs(self):
        for one in SHARES:
            for other in SHARES:
                first = Fraction(*one)
                second = Fraction(*other)
                with self.subTest(one=one, other=other):
                    self.assertEqual(plus(one, other), told(first + second))
                    self.assertEqual(minus(one, other), told(first - second))
                    self.assertEqual(times(one, other), told(first * second))
                    self.assertIs(under(one, other), first < second)

    def test_under_by_hand(self):
        self.assertIs(under((1, 3), (1, 2)), True)
        self.assertIs(under((1, 2), (1, 3)), False)
        self.assertIs(under((1, 2), (1, 2)), False)
        self.assertIs(under((-1, 2), (-1, 3)), True)
        self.assertIs(under((-1, 2), (0, 1)), True)
        self.assertIs(under((0, 1), (-1, 2)), False)

    def test_what_is_told_is_a_tuple_of_whole_numbers(self):
        for share in (plus((1, 2), (1, 2)), minus((1, 2), (1, 2)), times((1, 2), (2, 1)), total_of([(1, 2)])):
            self.assertIs(is_share(share), True)


class Totals(unittest.TestCase):
    def test_of_none(self):
        self.assertEqual(total_of([]), (0, 1))

    def test_of_some(self):
        self.assertEqual(total_of([(5, 3)]), (5, 3))
        self.assertEqual(total_of([(1, 2), (1, 3), (1, 6)]), (1, 1))
        self.assertEqual(total_of([(1, 2), (-1, 3), (-1, 6)]), (0, 1))
        self.assertEqual(total_of([(1, 2), (1, 2), (1, 2)]), (3, 2))
        self.assertEqual(total_of(SHARES), told(sum([Fraction(*share) for share in SHARES])))

    def test_of_many(self):
        shares = [share_of(1, bottom) for bottom in range(1, 400)]
        self.assertEqual(total_of(shares), told(sum([Fraction(1, bottom) for bottom in range(1, 400)])))

    def test_the_list_stays(self):
        shares = [(1, 2), (-1, 3), (1, 2)]
        total_of(shares)
        total_of(shares)
        self.assertEqual(shares, [(1, 2), (-1, 3), (1, 2)])
        empty = []
        total_of(empty)
        self.assertEqual(empty, [])


class WholeOf(unittest.TestCase):
    def test_from_nought_on(self):
        self.assertEqual(whole_of((0, 1)), (0, 0))
        self.assertEqual(whole_of((5, 1)), (5, 0))
        self.assertEqual(whole_of((7, 4)), (1, 3))
        self.assertEqual(whole_of((3, 4)), (0, 3))

    def test_below_nought(self):
        self.assertEqual(whole_of((-1, 2)), (-1, 1))
        self.assertEqual(whole_of((-7, 4)), (-2, 1))
        self.assertEqual(whole_of((-5, 1)), (-5, 0))
        self.assertEqual(whole_of((-1, LARGE)), (-1, LARGE - 1))

    def test_whole_and_rest_come_to_the_top(self):
        for share in SHARES:
            told_whole = whole_of(share)
            self.assertIsInstance(told_whole, tuple)
            self.assertEqual(told_whole[0] * share[1] + told_whole[1], share[0])
            self.assertTrue(0 <= told_whole[1] < share[1])


if __name__ == "__main__":
    unittest.main()
