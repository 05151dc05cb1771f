import unittest

from tariffgate.bands import band_at, banded, bands_of, slices_of, started
from tariffgate.errors import NoBands, NoNumber
from things import named, no_wholes

TOP_MARK = 10 ** 15
TOP_COINS = 10 ** 9
ONE = ((0, 3),)
THREE = ((0, 5), (10, 0), (25, 2))
SIX = ((0, 1), (1, 20), (2, 300), (10, 4000), (11, 50000), (TOP_MARK, TOP_COINS))


class Started(unittest.TestCase):
    def test_nought(self):
        for step in (1, 2, 10, 10 ** 60):
            self.assertEqual(started(0, step), 0)

    def test_round_about_so_many_steps(self):
        for step in (2, 3, 10, 10 ** 9, 10 ** 60 + 1):
            for many in (1, 2, 7, 10 ** 40):
                with self.subTest(step=step, many=many):
                    self.assertEqual(started(step * many - 1, step), many)
                    self.assertEqual(started(step * many, step), many)
                    self.assertEqual(started(step * many + 1, step), many + 1)

    def test_steps_of_one(self):
        for amount in (0, 1, 2, 99, 10 ** 60):
            self.assertEqual(started(amount, 1), amount)

    def test_it_is_the_least(self):
        for amount in range(60):
            for step in range(1, 60):
                many = started(amount, step)
                self.assertTrue(many * step >= amount)
                self.assertTrue(many == 0 or (many - 1) * step < amount)

    def test_amounts_that_are_none(self):
        for amount in no_wholes() + [-1, -10 ** 60]:
            for step in (1, 10):
                with self.subTest(named(amount)), self.assertRaises(NoNumber):
                    started(amount, step)

    def test_steps_that_are_none(self):
        for step in no_wholes() + [0, -1, -10 ** 60]:
            for amount in (0, 1, 10):
                with self.subTest(named(step)), self.assertRaises(NoNumber):
                    started(amount, step)

    def test_both_are_none(self):
        for amount, step in ((-1, 0), (True, True), (None, "a"), (-1, -1), ([], ())):
            with self.subTest(amount=amount, step=step), self.assertRaises(NoNumber):
                started(amount, step)


class Taken(unittest.TestCase):
    def test_bands_at_their_bounds(self):
        for bands in (
            ONE, THREE, SIX, ((0, 0),), ((0, TOP_COINS),), ((0, 0), (TOP_MARK, 0)), ((0, 7), (1, 7)),
            ((0, TOP_COINS), (1, 0), (2, TOP_COINS), (3, 0), (4, TOP_COINS), (TOP_MARK, 0)),
        ):
            with self.subTest(bands):
                self.assertEqual(bands_of(bands), bands)
                self.assertIsInstance(bands_of(bands), tuple)


class Refused(unittest.TestCase):
    def refused(self, rows):
        with self.subTest(named(rows)), self.assertRaises(NoBands):
            bands_of(rows)

    def test_too_few_or_too_many(self):
        self.refused(())
        self.refused(tuple([(mark, 1) for mark in range(7)]))
        self.refused(tuple([(mark, 1) for mark in range(1000)]))

    def test_a_list_is_no_tuple(self):
        self.refused([])
        self.refused([(0, 1)])
        self.refused([(0, 1), (5, 2)])
        self.refused([[0, 1]])

    def test_rows_that_are_none(self):
        for row in ([0, 1], (), (0,), (0, 1, 2), "01", {0: 1, 1: 1}, 0, None):
            self.refused((row,))
        for row in ([5, 1], (), (5,), (5, 1, 2), "51", {5: 1, 1: 1}, 5, None):
            self.refused(((0, 1), row))
            self.refused(((0, 1), row, (9, 1)))

    def test_the_first_mark_is_nought(self):
        self.refused(((1, 1),))
        self.refused(((-1, 1),))
        self.refused(((1, 1), (2, 1)))
        self.refused(((-1, 1), (0, 1)))
        self.refused(((TOP_MARK, 1),))

    def test_marks_rise(self):
        self.refused(((0, 1), (0, 1)))
        self.refused(((0, 1), (-1, 1)))
        self.refused(((0, 1), (5, 1), (5, 1)))
        self.refused(((0, 1), (5, 1), (4, 1)))
        self.refused(((0, 1), (5, 1), (0, 1)))
        self.refused(((0, 1), (5, 1), (7, 1), (6, 1), (8, 1)))
        self.refused(SIX[:5] + ((11, 1),))
        self.refused(SIX[:4] + (SIX[5], SIX[5]))

    def test_beyond_the_bounds(self):
        self.refused(((0, 1), (TOP_MARK + 1, 1)))
        self.refused(((0, 1), (10 ** 60, 1)))
        self.refused(((0, TOP_COINS + 1),))
        self.refused(((0, -1),))
        self.refused(((0, 1), (5, TOP_COINS + 1)))
        self.refused(((0, 1), (5, -1)))
        self.refused(((0, 1), (5, -1), (6, 1)))

    def test_things_of_any_kind_in_a_row(self):
        for thing in no_wholes():
            self.refused(((thing, 1),))
            self.refused(((0, thing),))
            self.refused(((thing, thing),))
            self.refused(((0, 1), (thing, 1)))
            self.refused(((0, 1), (5, thing)))
            self.refused(((0, 1), (thing, 1), (9, 1)))
            self.refused(((0, 1), (5, 1), (thing, thing)))

    def test_things_of_any_kind_in_the_place_of_a_row(self):
        for thing in no_wholes():
            self.refused((thing,))
            self.refused((thing, (5, 1)))
            if not isinstance(thing, tuple):
                self.refused(((0, 1), thing))

    def test_things_of_any_kind_in_the_place_of_all(self):
        for thing in no_wholes() + [0, 1, -1, "0:1", {0: 1}, {(0, 1): 1}, frozenset([(0, 1)]), iter([(0, 1)])]:
            self.refused(thing)


class Sliced(unittest.TestCase):
    def test_one_band(self):
        for amount in (0, 1, 10, 10 ** 60):
            self.assertEqual(slices_of(ONE, amount), [amount])
            self.assertEqual(band_at(ONE, amount), 0)
            self.assertEqual(banded(ONE, amount), 3 * amount)

    def test_below_at_and_behind_each_mark(self):
        for amount, slices, place, cost in (
            (0, [0, 0, 0], 0, 0),
            (1, [1, 0, 0], 0, 5),
            (9, [9, 0, 0], 0, 45),
            (10, [10, 0, 0], 1, 50),
            (11, [10, 1, 0], 1, 50),
            (24, [10, 14, 0], 1, 50),
            (25, [10, 15, 0], 2, 50),
            (26, [10, 15, 1], 2, 52),
            (125, [10, 15, 100], 2, 250),
        ):
            with self.subTest(amount):
                self.assertEqual(slices_of(THREE, amount), slices)
                self.assertEqual(band_at(THREE, amount), place)
                self.assertEqual(banded(THREE, amount), cost)

    def test_six_bands_up_to_the_greatest_mark(self):
        for amount, slices, place in (
            (0, [0, 0, 0, 0, 0, 0], 0),
            (1, [1, 0, 0, 0, 0, 0], 1),
            (2, [1, 1, 0, 0, 0, 0], 2),
            (3, [1, 1, 1, 0, 0, 0], 2),
            (9, [1, 1, 7, 0, 0, 0], 2),
            (10, [1, 1, 8, 0, 0, 0], 3),
            (11, [1, 1, 8, 1, 0, 0], 4),
            (12, [1, 1, 8, 1, 1, 0], 4),
            (TOP_MARK - 1, [1, 1, 8, 1, TOP_MARK - 12, 0], 4),
            (TOP_MARK, [1, 1, 8, 1, TOP_MARK - 11, 0], 5),
            (TOP_MARK + 1, [1, 1, 8, 1, TOP_MARK - 11, 1], 5),
            (10 ** 60, [1, 1, 8, 1, TOP_MARK - 11, 10 ** 60 - TOP_MARK], 5),
        ):
            cost = 0
            for part, coins in zip(slices, (1, 20, 300, 4000, 50000, TOP_COINS)):
                cost += part * coins
            with self.subTest(amount):
                self.assertEqual(slices_of(SIX, amount), slices)
                self.assertEqual(band_at(SIX, amount), place)
                self.assertEqual(banded(SIX, amount), cost)

    def test_slices_come_to_the_amount_and_fill_in_turn(self):
        for amount in range(60):
            slices = slices_of(THREE, amount)
            self.assertEqual(sum(slices), amount)
            for place, wide in ((0, 10), (1, 15)):
                if slices[place] < wide:
                    self.assertFalse(any(slices[place + 1:]))

    def test_each_list_of_slices_is_the_askers_own(self):
        first = slices_of(THREE, 26)
        first.append(99)
        first[0] = 7
        self.assertEqual(slices_of(THREE, 26), [10, 15, 1])
        self.assertEqual(banded(THREE, 26), 52)
        second = slices_of(THREE, 26)
        slices_of(THREE, 5)
        self.assertEqual(second, [10, 15, 1])
        self.assertIsInstance(second, list)


if __name__ == "__main__":
    unittest.main()
