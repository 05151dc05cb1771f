import copy
import itertools
import unittest

from tariffgate.grants import served
from things import CHAIN, CHAIN_BACK, LINES, drawn_line, granted_by_sets, sets_of, splits_of

TOP = 10 ** 15
SMALL = [([room, other], list(line)) for room in (0, 1, 2) for other in (0, 1, 3) for line in itertools.product(
    [([], 1), ([0], 1), ([0], 2), ([1], 2), ([0, 1], 1), ([0, 1], 3)], repeat=3)]
SMALL_DRAWN = [drawn_line(seed, 4, 4, 3) for seed in range(400)]


def granted(rooms, line):
    return served(rooms, line)[0]


def granted_by_leading(rooms, line):
    """Of all ways of leading the line the one that is best for the first, of these for the second, and so on."""
    ways = {((), tuple(rooms))}
    for places, weight in line:
        found = set()
        for grants, left in ways:
            for split in splits_of(left, places, weight):
                behind = tuple(room - split.get(place, 0) for place, room in enumerate(left))
                found.add((grants + (sum(split.values()),), behind))
        # Those that are granted less by now can not be the best any more.
        best = max(grants for grants, left in found)
        ways = {(grants, left) for grants, left in found if grants == best}
    return list(max(grants for grants, left in ways))


class Granted(unittest.TestCase):
    def grants(self, rooms, line, wanted):
        with self.subTest(rooms=rooms, line=line):
            self.assertEqual(granted(rooms, line), wanted)

    def test_no_entries_and_no_quotas(self):
        self.assertEqual(served([], []), ([], [], []))
        self.assertEqual(served([5, 0, TOP], []), ([], [], []))
        self.assertEqual(served([], [([], 5), ([], 0), ([], TOP)]), ([0, 0, 0], [[], [], []], [[], None, []]))

    def test_one_quota(self):
        self.assertEqual(served([5], [([0], 3)]), ([3], [[(0, 3)]], [None]))
        self.assertEqual(served([5], [([0], 5)]), ([5], [[(0, 5)]], [None]))
        self.assertEqual(served([5], [([0], 6)]), ([5], [[(0, 5)]], [[0]]))
        self.assertEqual(served([0], [([0], 1)]), ([0], [[]], [[0]]))
        self.assertEqual(served([5], [([0], 0)]), ([0], [[]], [None]))
        self.assertEqual(served([5], [([], 4)]), ([0], [[]], [[]]))

    def test_one_after_another(self):
        self.grants([5], [([0], 2), ([0], 2), ([0], 2), ([0], 2)], [2, 2, 1, 0])
        self.grants([5], [([0], 0), ([0], 9), ([0], 0), ([0], 1)], [0, 5, 0, 0])
        self.grants([5], [([], 9), ([0], 2), ([], 9), ([0], 4)], [0, 2, 0, 3])

    def test_several_quotas(self):
        self.grants([5, 4, 3], [([0, 1, 2], 12)], [12])
        self.grants([5, 4, 3], [([0, 1, 2], 13)], [12])
        self.grants([5, 4, 3], [([0, 2], 13), ([1, 2], 13)], [8, 4])
        self.grants([5, 0, 3], [([1], 1), ([0, 1], 6), ([0, 1, 2], 1)], [0, 5, 1])

    def test_those_ahead_are_led_elsewhere(self):
        self.grants([5, 5], [([0, 1], 5), ([0], 5)], [5, 5])
        self.grants([5, 5], [([0, 1], 5), ([1], 5)], [5, 5])
        self.grants([4, 3], [([0, 1], 5), ([0], 4)], [5, 2])
        self.grants([4, 3], [([0, 1], 5), ([1], 4)], [5, 2])
        self.grants([4, 3], [([0, 1], 2), ([0, 1], 2), ([0], 4)], [2, 2, 3])
        self.grants([4, 3], [([0, 1], 2), ([0, 1], 2), ([1], 4)], [2, 2, 3])

    def test_along_more_than_one(self):
        for order in itertools.permutations((0, 1, 2)):
            for entry in order:
                line = [(sorted([order[0], order[1]]), 5), (sorted([order[1], order[2]]), 5), ([entry], 9)]
                self.grants([5, 5, 5], line, [5, 5, 5])
        self.grants(*CHAIN, [7] * 6)
        self.grants(*CHAIN_BACK, [7] * 6)
        self.grants([7] * 6, CHAIN[1][:5][::-1] + [([0], 7)], [7] * 6)
        self.grants([TOP] * 6, [(places, TOP) for places, weight in CHAIN[1]], [TOP] * 6)
        self.grants([TOP - 1] * 6, [(places, TOP) for places, weight in CHAIN[1]], [TOP] * 5 + [TOP - 6])

    def test_along_several_by_a_part(self):
        line = [([0, 1], 6), ([1, 2], 5), ([2, 3], 2), ([0], 9), ([3], 9)]
        self.grants([6, 5, 4, 3], line, [6, 5, 2, 4, 1])
        self.grants([6, 5, 4, 2], line, [6, 5, 2, 4, 0])
        self.grants([6, 5, 2, 2], line, [6, 5, 2, 2, 0])
        self.grants([6, 3, 2, 2], line, [6, 5, 2, 0, 0])

    def test_one_is_granted_a_part_and_one_behind_it_all(self):
        self.grants([5, 5], [([0], 9), ([0], 1), ([1], 3), ([0, 1], 9), ([1], 1)], [5, 0, 3, 2, 0])
        self.grants([2, 9], [([0], 3), ([0, 1], 9), ([], 0)], [2, 9, 0])

    def test_great_weights_and_forty_entries(self):
        self.grants([TOP] * 6, [([0, 1, 2, 3, 4, 5], TOP)] * 40, [TOP] * 6 + [0] * 34)
        self.grants([TOP], [([0], TOP)] * 40, [TOP] + [0] * 39)
        self.grants([TOP], [([0], TOP // 40)] * 40, [TOP // 40] * 40)
        self.grants([30, 20], [([0, 1], place) for place in range(40)], list(range(10)) + [5] + [0] * 29)
        # A way that is led to and fro by single units would never end here.
        self.grants([TOP, TOP, 1], [([0, 2], TOP), ([1, 2], TOP), ([0, 1], TOP)], [TOP, TOP, 1])

    def test_by_sets_of_quotas(self):
        for rooms, line in LINES:
            self.assertEqual(granted(rooms, line), granted_by_sets(rooms, line), (rooms, line))

    def test_small_lines_by_all_ways_of_leading_them(self):
        for rooms, line in SMALL + SMALL_DRAWN:
            self.assertEqual(granted(rooms, line), granted_by_leading(rooms, line), (rooms, line))

    def test_what_stands_behind_changes_nothing(self):
        for rooms, line in LINES:
            whole = granted(rooms, line)
            for many in range(0, len(line), 3):
                self.assertEqual(granted(rooms, line[:many]), whole[:many])
                self.assertEqual(granted(rooms, line[:many] + line[::-1][:many])[:many], whole[:many])

    def less(self, rooms, line, place, behind):
        """Those behind have no less, all others together no more than is set free."""
        told, fewer = granted(rooms, line), granted(rooms, behind)
        free = told[place]
        if len(fewer) == len(told):
            free -= fewer.pop(place)
        others = told[:place] + told[place + 1:]
        self.assertEqual(others[:place], fewer[:place])
        for grant, other in zip(others, fewer):
            self.assertLessEqual(grant, other)
        self.assertLessEqual(sum(fewer) - sum(others), free)

    def test_one_ahead_asks_for_less_or_leaves(self):
        for rooms, line in LINES + SMALL_DRAWN[:200]:
            for place in range(0, len(line), 1 + len(line) // 8):
                places, weight = line[place]
                for smaller in sorted({0, weight // 2, max(0, weight - 1)}):
                    self.less(rooms, line, place, line[:place] + [(places, smaller)] + line[place + 1:])
                self.less(rooms, line, place, line[:place] + line[place + 1:])

    def test_those_ahead_in_another_order(self):
        for rooms, line in LINES:
            told = granted(rooms, line)
            for place in range(0, len(line), 7):
                ahead = line[:place]
                for other in (ahead[::-1], ahead[1:] + ahead[:1], ahead[::2] + ahead[1::2], sorted(ahead)):
                    again = granted(rooms, other + [line[place]])
                    self.assertEqual(sum(again[:-1]), sum(told[:place]))
                    self.assertEqual(again[-1], told[place])
        for rooms, line in SMALL_DRAWN:
            told = granted(rooms, line)
            for other in itertools.permutations(line[:-1]):
                again = granted(rooms, list(other) + line[-1:])
                self.assertEqual((sum(again[:-1]), again[-1:]), (sum(told[:-1]), told[-1:]))

    def test_nothing_is_left_that_one_might_have_had(self):
        for rooms, line in LINES:
            told, routes, cuts = served(rooms, line)
            left = [room - sum(dict(route).get(place, 0) for route in routes) for place, room in enumerate(rooms)]
            for (places, weight), grant in zip(line, told):
                if grant < weight:
                    self.assertEqual([left[place] for place in places], [0] * len(places))


class Routes(unittest.TestCase):
    def test_the_form(self):
        for rooms, line in LINES + SMALL_DRAWN:
            told, routes, cuts = served(rooms, line)
            self.assertIs(routes.__class__, list)
            self.assertEqual(len(routes), len(line))
            for (places, weight), grant, route in zip(line, told, routes):
                self.assertIs(route.__class__, list)
                self.assertEqual([pair.__class__ for pair in route], [tuple] * len(route))
                self.assertEqual([place for place, amount in route], sorted({place for place, amount in route}))
                self.assertLessEqual({place for place, amount in route}, set(places))
                self.assertGreater(min([amount for place, amount in route], default=1), 0)
                self.assertEqual(sum(amount for place, amount in route), grant)

    def test_through_each_quota_goes_no_more_than_its_room(self):
        for rooms, line in LINES + SMALL_DRAWN:
            through = [0] * len(rooms)
            for route in served(rooms, line)[1]:
                for place, amount in route:
                    through[place] += amount
            for amount, room in zip(through, rooms):
                self.assertLessEqual(amount, room)

    def test_where_one_way_alone_is_left(self):
        self.assertEqual(served([5, 4, 3], [([0, 1, 2], 12)])[1], [[(0, 5), (1, 4), (2, 3)]])
        self.assertEqual(served([5, 0, 3], [([0, 1, 2], 9), ([], 1)])[1], [[(0, 5), (2, 3)], []])
        self.assertEqual(served([5, 5], [([0, 1], 5), ([0], 5)])[1], [[(1, 5)], [(0, 5)]])
        self.assertEqual(served([5, 5], [([0, 1], 5), ([1], 5)])[1], [[(0, 5)], [(1, 5)]])
        self.assertEqual(served([4, 3], [([0, 1], 5), ([1], 4)])[1], [[(0, 4), (1, 1)], [(1, 2)]])
        self.assertEqual(served(*CHAIN)[1], [[(place + 1, 7)] for place in range(5)] + [[(0, 7)]])
        self.assertEqual(served(*CHAIN_BACK)[1], [[(place, 7)] for place in (4, 3, 2, 1, 0)] + [[(5, 7)]])


class Cuts(unittest.TestCase):
    def test_none_where_the_whole_weight_was_granted(self):
        for rooms, line in LINES + SMALL_DRAWN:
            told, routes, cuts = served(rooms, line)
            self.assertIs(cuts.__class__, list)
            self.assertEqual(len(cuts), len(line))
            for (places, weight), grant, cut in zip(line, told, cuts):
                self.assertIs(cut.__class__, None.__class__ if grant == weight else list)

    def test_what_a_cut_says(self):
        seen = 0
        for rooms, line in LINES + SMALL_DRAWN:
            told, routes, cuts = served(rooms, line)
            for place, cut in enumerate(cuts):
                if cut is not None:
                    seen += 1
                    self.assertIn(cut, sets_of(len(rooms)))
                    self.assertLessEqual(set(line[place][0]), set(cut))
                    inside = [told[one] for one in range(place + 1) if set(line[one][0]) <= set(cut)]
                    self.assertEqual(sum(inside), sum(rooms[one] for one in cut))
        self.assertGreater(seen, 500)

    def test_where_one_cut_alone_is_right(self):
        line = [([0, 1], 7), ([0], 1), ([1, 2], 9), ([1], 1)]
        for rooms, entries, cuts in (
            ([5, 5], [([1], 6), ([0], 0), ([0], 5)], [[1], None, None]),
            ([4, 3], [([0, 1], 5), ([0], 4)], [None, [0, 1]]),
            ([4, 3], [([0, 1], 5), ([1], 4)], [None, [0, 1]]),
            ([4, 3, 10], line, [None, [0, 1], None, [0, 1]]),
            ([6] * 6, CHAIN[1], [None] * 5 + [[0, 1, 2, 3, 4, 5]]),
            ([6] * 6, CHAIN_BACK[1], [None] * 5 + [[0, 1, 2, 3, 4, 5]]),
        ):
            with self.subTest(rooms=rooms, line=entries):
                self.assertEqual(served(rooms, entries)[2], cuts)

    def test_an_entry_that_may_draw_on_nothing(self):
        for rooms in ([], [0], [5, 5], [TOP] * 6):
            self.assertEqual(served(rooms, [([], 1), ([], 0), ([], TOP)])[2], [[], None, []])

    def test_a_cut_says_nothing_of_what_stands_behind(self):
        told, routes, cuts = served([5, 5], [([0], 9), ([0, 1], 9), ([1], 9)])
        self.assertEqual(told, [5, 5, 0])
        self.assertEqual(cuts[0], [0])


class AsTold(unittest.TestCase):
    def test_a_tuple_of_three_lists(self):
        for rooms, line in LINES:
            told = served(rooms, line)
            self.assertIs(told.__class__, tuple)
            self.assertEqual([part.__class__ for part in told], [list] * 3)
            self.assertEqual([grant.__class__ for grant in told[0]], [int] * len(line))

    def test_what_was_handed_in_stays(self):
        for rooms, line in LINES:
            handed = copy.deepcopy((rooms, line))
            served(*handed)
            self.assertEqual(handed, (rooms, line))

    def test_the_lists_told_are_new_ones(self):
        for rooms, line in LINES:
            handed = copy.deepcopy((rooms, line))
            told = served(*handed)
            kept = copy.deepcopy(told)
            again = served(*handed)
            # Each list by itself: none of them stands twice, in one answer or in two.
            lists = list(told) + told[1] + told[2] + list(again) + again[1] + again[2] + [handed[0], handed[1]]
            lists = [part for part in lists if part is not None]
            self.assertEqual(len({id(part) for part in lists}), len(lists))
            for part in lists[:len(lists) // 2]:
                part.clear()
            for places, weight in handed[1]:
                places.clear()
            handed[0].clear()
            self.assertEqual(served(rooms, line), kept)

    def test_what_the_asker_does_to_what_was_handed_in_changes_nothing(self):
        rooms, line = [5], [([0], 6)]
        told = served(rooms, line)
        line[0][0].append(1)
        rooms.clear()
        line.clear()
        self.assertEqual(told, ([5], [[(0, 5)]], [[0]]))
        told[2][0].append(7)
        self.assertEqual(served([5], [([0], 6)]), ([5], [[(0, 5)]], [[0]]))


if __name__ == "__main__":
    unittest.main()
