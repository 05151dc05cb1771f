import itertools
import unittest

from tariffgate.looks import all_looks, alone_of, chief_of, key_of, look_of

LARGE = 10 ** 60

LOOKS = (
    ([5], (1,)), ([1], (1,)), ([LARGE], (1,)),
    ([0, 5], (0, 1)), ([5, 0], (1, 0)), ([5, 5], (1, 1)), ([4, 5], (1, 2)), ([5, 4], (2, 1)),
    ([LARGE, LARGE + 1], (1, 2)), ([LARGE, LARGE], (1, 1)), ([1, LARGE], (1, 2)),
    ([3, 0, 3], (1, 0, 1)), ([9, 2, 9], (2, 1, 2)), ([2, 9, 2], (1, 2, 1)), ([30, 10, 20], (3, 1, 2)),
    ([0, 0, 7, 0], (0, 0, 1, 0)), ([0, 8, 7, 0], (0, 2, 1, 0)), ([7, 0, 7, 9], (1, 0, 1, 2)),
    ([100, 1, 10, 1000], (3, 1, 2, 4)), ([4, 3, 2, 1], (4, 3, 2, 1)), ([6, 6, 6, 6], (1, 1, 1, 1)),
    ([6, 2, 6, 2], (2, 1, 2, 1)), ([5, 9, 5, 7], (1, 3, 1, 2)), ([LARGE, 0, 1, LARGE - 1], (3, 0, 1, 2)),
)


def weights_up_to(top, many):
    """All weights of so many kinds up to the top one, but for those that are all 0."""
    return [weights for weights in itertools.product(range(top + 1), repeat=many) if any(weights)]


class Looks(unittest.TestCase):
    def test_of_lists_and_tuples(self):
        for weights, look in LOOKS:
            with self.subTest(weights):
                self.assertEqual(look_of(weights), look)
                self.assertEqual(look_of(tuple(weights)), look)
                self.assertIsInstance(look_of(weights), tuple)

    def test_by_the_words_of_the_document(self):
        for many in (1, 2, 3, 4):
            for weights in weights_up_to(5, many):
                look = look_of(weights)
                for weight, number in zip(weights, look):
                    if weight == 0:
                        self.assertEqual(number, 0)
                    else:
                        self.assertEqual(number, len({other for other in weights if other > 0 and other <= weight}))
                self.assertEqual({number for number in look if number}, set(range(1, max(look) + 1)))

    def test_a_look_is_its_own_look(self):
        for many in (1, 2, 3, 4):
            for weights in weights_up_to(5, many):
                look = look_of(weights)
                self.assertEqual(look_of(look), look)
                self.assertEqual(look_of(list(look)), look)

    def test_what_was_handed_in_stays(self):
        weights = [9, 0, 2, 9]
        look_of(weights)
        key_of(weights)
        self.assertEqual(weights, [9, 0, 2, 9])


class Keys(unittest.TestCase):
    def test_of_lists_and_tuples(self):
        for weights, key in (
            ([5], (1, (0,), (5,))),
            ([0, 5], (1, (1,), (5,))),
            ([5, 0], (1, (0,), (5,))),
            ([5, 4], (2, (0, 1), (5, 4))),
            ([0, 7, 0, LARGE], (2, (1, 3), (7, LARGE))),
            ([3, 0, 1], (2, (0, 2), (3, 1))),
            ([9, 8, 7, 6], (4, (0, 1, 2, 3), (9, 8, 7, 6))),
        ):
            with self.subTest(weights):
                self.assertEqual(key_of(weights), key)
                self.assertEqual(key_of(tuple(weights)), key)
                self.assertIsInstance(key_of(weights), tuple)
                self.assertIsInstance(key_of(weights)[1], tuple)
                self.assertIsInstance(key_of(weights)[2], tuple)

    def test_which_is_less(self):
        rising = [
            (1, 0, 0), (9, 0, 0), (0, 1, 0), (0, 0, 1), (0, 0, 9), (1, 1, 0), (1, 2, 0), (2, 1, 0), (1, 0, 1),
            (0, 1, 1), (0, 9, 8), (1, 1, 1), (1, 1, 2), (1, 2, 1), (2, 1, 1),
        ]
        self.assertEqual(sorted(rising[::-1], key=key_of), rising)

    def test_the_look_is_the_least_of_all_that_have_it(self):
        for many in (1, 2, 3, 4):
            least = {}
            for weights in weights_up_to(5, many):
                look = look_of(weights)
                if look not in least or key_of(weights) < key_of(least[look]):
                    least[look] = weights
            for look, weights in least.items():
                self.assertEqual(weights, look)


class AllLooks(unittest.TestCase):
    def test_one_and_two_kinds(self):
        self.assertEqual(all_looks(1), [(1,)])
        self.assertEqual(all_looks(2), [(1, 0), (0, 1), (1, 1), (1, 2), (2, 1)])

    def test_three_kinds(self):
        self.assertEqual(all_looks(3), [
            (1, 0, 0), (0, 1, 0), (0, 0, 1),
            (1, 1, 0), (1, 2, 0), (2, 1, 0), (1, 0, 1), (1, 0, 2), (2, 0, 1), (0, 1, 1), (0, 1, 2), (0, 2, 1),
            (1, 1, 1), (1, 1, 2), (1, 2, 1), (1, 2, 2), (1, 2, 3), (1, 3, 2),
            (2, 1, 1), (2, 1, 2), (2, 1, 3), (2, 2, 1), (2, 3, 1), (3, 1, 2), (3, 2, 1),
        ])

    def test_how_many_there_are(self):
        self.assertEqual([len(all_looks(many)) for many in (1, 2, 3, 4)], [1, 5, 25, 149])

    def test_each_once_and_its_own_look(self):
        for many in (1, 2, 3, 4):
            looks = all_looks(many)
            self.assertIsInstance(looks, list)
            self.assertEqual(len(set(looks)), len(looks))
            for look in looks:
                self.assertIsInstance(look, tuple)
                self.assertEqual(len(look), many)
                self.assertEqual(look_of(look), look)

    def test_rising_keys(self):
        for many in (1, 2, 3, 4):
            keys = [key_of(look) for look in all_looks(many)]
            for key, behind in zip(keys, keys[1:]):
                self.assertLess(key, behind)

    def test_the_look_of_any_weights_is_among_them(self):
        for many in (1, 2, 3, 4):
            self.assertEqual({look_of(weights) for weights in weights_up_to(5, many)}, set(all_looks(many)))

    def test_told_anew_each_time(self):
        for many in (1, 2, 3, 4):
            first = all_looks(many)
            kept = list(first)
            second = all_looks(many)
            first.reverse()
            first.append((7,))
            self.assertEqual(second, kept)
            self.assertEqual(all_looks(many), kept)


class Chiefs(unittest.TestCase):
    def test_the_greatest_and_of_several_the_first(self):
        for look, chief, alone in (
            ((1,), 0, (1,)),
            ((1, 0), 0, (1, 0)), ((0, 1), 1, (0, 1)), ((1, 1), 0, (1, 0)), ((1, 2), 1, (0, 1)), ((2, 1), 0, (1, 0)),
            ((0, 1, 1), 1, (0, 1, 0)), ((1, 2, 2), 1, (0, 1, 0)), ((2, 1, 2), 0, (1, 0, 0)), ((1, 2, 3), 2, (0, 0, 1)),
            ((0, 0, 0, 1), 3, (0, 0, 0, 1)), ((0, 0, 1, 1), 2, (0, 0, 1, 0)), ((1, 1, 1, 1), 0, (1, 0, 0, 0)),
            ((1, 3, 2, 3), 1, (0, 1, 0, 0)), ((2, 1, 3, 4), 3, (0, 0, 0, 1)), ((1, 0, 2, 2), 2, (0, 0, 1, 0)),
        ):
            with self.subTest(look):
                self.assertEqual(chief_of(look), chief)
                self.assertEqual(alone_of(look), alone)
                self.assertIsInstance(alone_of(look), tuple)

    def test_of_all_looks(self):
        for many in (1, 2, 3, 4):
            for look in all_looks(many):
                chief = chief_of(look)
                self.assertTrue(all(number < look[chief] for number in look[:chief]))
                self.assertTrue(all(number <= look[chief] for number in look[chief:]))
                alone = alone_of(look)
                self.assertEqual(key_of(alone), (1, (chief,), (1,)))
                self.assertEqual(look_of(alone), alone)
                self.assertEqual(alone_of(alone), alone)


if __name__ == "__main__":
    unittest.main()
