import copy
import itertools
import unittest

from tariffgate.grants import served
from tariffgate.lines import lets_by
from things import LINES, Draws, Spiteful, deep_tuple, drawn_line, granted_by_sets, named, no_wholes, own_list
from things import sets_of, splits_of, things

TOP = 10 ** 15
# The grants are 5, 0, 2, 3 and 0: the first goes through both, the second has none of its weight,
# the third a part, the fourth its whole weight; the last may draw on nothing.
ROOMS = [4, 3, 9]
LINE = [([0, 1], 5), ([2], 0), ([1], 4), ([2], 3), ([], 6)]
GRANTED = [5, 0, 2, 3, 0]
ROUTES = [[(0, 4), (1, 1)], [], [(1, 2)], [(2, 3)], []]
CUTS = [None, None, [0, 1], None, []]
SMALL = [drawn_line(seed, 3, 3, 2) for seed in range(120)]


def changed(row, place, thing):
    return row[:place] + [thing] + row[place + 1:]


def let_by_words(rooms, line, granted, routes, cuts):
    """Whether they are let by, of things that have the right form, by the words of the document."""
    if not len(granted) == len(routes) == len(cuts) == len(line):
        return False
    through = [0] * len(rooms)
    for place, (places, weight) in enumerate(line):
        if not 0 <= granted[place] <= weight or sum(amount for one, amount in routes[place]) != granted[place]:
            return False
        if len({one for one, amount in routes[place]}) != len(routes[place]):
            return False
        for one, amount in routes[place]:
            if one not in places or amount < 1:
                return False
            through[one] += amount
        if granted[place] == weight:
            continue
        cut = cuts[place]
        if cut is None or len(set(cut)) != len(cut) or not set(places) <= set(cut) <= set(range(len(rooms))):
            return False
        inside = [grant for grant, entry in list(zip(granted, line))[:place + 1] if set(entry[0]) <= set(cut)]
        if sum(inside) != sum(rooms[one] for one in cut):
            return False
    return all(amount <= room for amount, room in zip(through, rooms))


class LetBy(unittest.TestCase):
    def lets(self, rooms, line, *told):
        with self.subTest(rooms=rooms, line=line):
            self.assertIs(lets_by(rooms, line, *told), True)

    def test_by_hand(self):
        self.lets(ROOMS, LINE, GRANTED, ROUTES, CUTS)
        self.lets([], [], [], [], [])
        self.lets([5], [], [], [], [])
        self.lets([], [([], 0), ([], 4)], [0, 0], [[], []], [None, []])
        self.lets([5], [([0], 6), ([0], 1)], [5, 0], [[(0, 5)], []], [[0], [0]])
        self.lets([TOP], [([0], TOP), ([0], TOP)], [TOP, 0], [[(0, TOP)], []], [None, [0]])

    def test_what_is_served(self):
        for rooms, line in LINES + SMALL:
            self.lets(rooms, line, *served(rooms, line))

    def test_places_in_any_order(self):
        for rooms, line in LINES + [(ROOMS, LINE), ([5, 5, 5, 5], [([0, 1, 2, 3], 19), ([1, 3], 3)])]:
            granted, routes, cuts = served(rooms, line)
            for turn in (lambda row: row[::-1], lambda row: row[1:] + row[:1], lambda row: row[1::2] + row[::2]):
                turned = [cut if cut is None else turn(cut) for cut in cuts]
                self.lets(rooms, line, granted, [turn(route) for route in routes], turned)
                self.lets(rooms, line, granted, routes, turned)

    def test_another_way_of_leading(self):
        self.lets([5, 5], [([0, 1], 4)], [4], [[(0, 4)]], [None])
        self.lets([5, 5], [([0, 1], 4)], [4], [[(1, 4)]], [None])
        self.lets([5, 5], [([0, 1], 4)], [4], [[(1, 1), (0, 3)]], [None])

    def test_another_cut(self):
        # Behind two that fill one quota each, one more is cut by its own quota and by both.
        line = [([0], 5), ([1], 5), ([0], 1), ([], 1)]
        routes = [[(0, 5)], [(1, 5)], [], []]
        for cut in ([0], [0, 1], [1, 0]):
            for other in ([], [0], [1], [0, 1], [1, 0]):
                self.lets([5, 5], line, [5, 5, 0, 0], routes, [None, None, cut, other])
        self.assertIs(lets_by([5, 5], line, [5, 5, 0, 0], routes, [None, None, [1], []]), False)

    def test_anything_in_the_place_of_a_cut_that_is_not_looked_at(self):
        for thing in things() + [[0], [0, 0], [9], [-1], (0,), ["0"], [Spiteful()], (Spiteful(),)]:
            self.lets(ROOMS, LINE, GRANTED, ROUTES, [thing, thing, CUTS[2], thing, CUTS[4]])
            self.lets([], [([], 0)], [0], [[]], [thing])

    def test_beyond_the_bounds_nothing_is_refused(self):
        wide = [([0, 6, 7], 10), ([7], 4)]
        for rooms, line in (([3] * 8, wide), ([50], [([0], 2)] * 45), ([TOP * 9], [([0], TOP * 9), ([0], 1)])):
            self.lets(rooms, line, *served(rooms, line))
            self.assertEqual(served(rooms, line)[0], granted_by_sets(rooms, line))


class NotLetBy(unittest.TestCase):
    def refuses(self, granted=GRANTED, routes=ROUTES, cuts=CUTS, rooms=ROOMS, line=LINE):
        with self.subTest(named(granted), routes=named(routes), cuts=named(cuts)):
            self.assertIs(lets_by(rooms, line, granted, routes, cuts), False)

    def test_the_sample_is_let_by(self):
        self.assertIs(lets_by(ROOMS, LINE, GRANTED, ROUTES, CUTS), True)
        self.assertEqual(granted_by_sets(ROOMS, LINE), GRANTED)

    def test_a_grant_one_more_or_less_and_others(self):
        for place, grant in enumerate(GRANTED):
            for other in (grant + 1, grant - 1, -1, -grant - 1, LINE[place][1] + 1, 10 ** 60, -10 ** 60):
                self.refuses(changed(GRANTED, place, other))

    def test_a_grant_with_routes_that_come_to_it(self):
        # One more than there is: over a room.
        self.refuses([5, 0, 3, 3, 0], changed(ROUTES, 2, [(1, 3)]))
        self.refuses([5, 0, 3, 3, 0], changed(ROUTES, 2, [(1, 3)]), changed(CUTS, 2, [1]))
        # One less: no cut says so.
        for cut in sets_of(3):
            self.refuses([5, 0, 1, 3, 0], changed(ROUTES, 2, [(1, 1)]), changed(CUTS, 2, cut))
            self.refuses([5, 0, 2, 2, 0], changed(ROUTES, 3, [(2, 2)]), changed(CUTS, 3, cut))
            self.refuses([4, 0, 2, 3, 0], changed(ROUTES, 0, [(0, 4)]), changed(CUTS, 0, cut))
        # What one ahead gives away to one behind.
        self.refuses([4, 0, 3, 3, 0], [[(0, 4)], [], [(1, 3)], [(2, 3)], []], [[0, 1], None, [0, 1], None, []])
        # Above the weight, and below 0.
        self.refuses([5, 0, 2, 4, 0], changed(ROUTES, 3, [(2, 4)]))
        self.refuses([5, 1, 2, 3, 0], changed(ROUTES, 1, [(2, 1)]))
        self.refuses([5, -1, 2, 3, 0], changed(ROUTES, 1, [(2, -1)]))
        self.refuses([5, -1, 2, 3, 0])

    def test_a_grant_below_nought_with_sums_as_told(self):
        line = [([0], 1), ([0], 9), ([0], 3)]
        self.refuses([-1, 6, 0], [[(0, -1)], [(0, 6)], []], [[0], [0], [0]], [5], line)
        self.refuses([-1, 6, 0], [[], [(0, 5)], []], [[0], [0], [0]], [5], line)

    def test_a_grant_above_the_weight_with_sums_as_told(self):
        self.refuses([5, 0], [[(0, 5)], []], [[0], [0]], [5], [([0], 4), ([0], 3)])
        self.refuses([5, 0], [[(0, 5)], []], [None, [0]], [5], [([0], 4), ([0], 3)])

    def test_a_grant_that_is_no_whole_number(self):
        for place, grant in enumerate(GRANTED):
            for thing in no_wholes() + [float(grant), str(grant), (grant,), [grant]]:
                if not (isinstance(thing, bool) and thing == grant):
                    self.refuses(changed(GRANTED, place, thing))

    def test_routes_that_do_not_come_to_the_grant(self):
        for place, route in (
            (0, [(0, 4)]), (0, [(0, 4), (1, 2)]), (0, [(0, 3), (1, 1)]), (0, [(1, 1)]), (0, []), (1, [(2, 1)]), (2, []),
            (2, [(1, 1)]), (2, [(1, 3)]), (3, [(2, 4)]), (3, [(2, 2)]), (3, []),
        ):
            self.refuses(routes=changed(ROUTES, place, route))

    def test_routes_through_a_quota_of_others(self):
        for place, route in (
            (0, [(0, 4), (2, 1)]), (0, [(2, 5)]), (2, [(0, 2)]), (2, [(2, 2)]), (2, [(1, 1), (2, 1)]), (3, [(0, 3)]),
            (3, [(1, 3)]), (3, [(3, 3)]), (3, [(-1, 3)]), (3, [(10 ** 60, 3)]), (2, [(-2, 2)]), (0, [(0, 4), (-2, 1)]),
        ):
            self.refuses(routes=changed(ROUTES, place, route))
        self.refuses([1], [[(0, 1)]], [[]], [5], [([], 1)])

    def test_routes_through_one_twice(self):
        for place, route in (
            (0, [(0, 4), (0, 1)]), (0, [(0, 2), (0, 2), (1, 1)]), (0, [(0, 2), (1, 1), (0, 2)]), (2, [(1, 1), (1, 1)]),
            (3, [(2, 1), (2, 1), (2, 1)]), (3, [(2, 1), (2, 2)]),
        ):
            self.refuses(routes=changed(ROUTES, place, route))

    def test_amounts_of_nought_or_below(self):
        for place, route in (
            (0, [(0, 5), (1, 0)]), (0, [(0, 0), (1, 5)]), (0, [(0, 6), (1, -1)]), (0, [(0, -1), (1, 6)]), (1, [(2, 0)]),
            (0, [(0, 10 ** 60), (1, 5 - 10 ** 60)]),
        ):
            self.refuses(routes=changed(ROUTES, place, route))
        # With rooms so wide that nothing else is wrong.
        line = [([0, 1], 5), ([0, 1], 0), ([0], 9)]
        for routes in (
            [[(0, 5), (1, 0)], [], [(0, 9)]], [[(0, 6), (1, -1)], [], [(0, 9)]], [[(0, 5)], [(0, 0)], [(0, 9)]],
            [[(0, 5)], [(0, 1), (1, -1)], [(0, 9)]],
        ):
            self.refuses([5, 0, 9], routes, [None] * 3, [TOP, TOP], line)

    def test_over_a_room_by_one(self):
        self.refuses(routes=changed(ROUTES, 0, [(0, 3), (1, 2)]))
        self.refuses(routes=changed(ROUTES, 0, [(1, 5)]))
        line = [([0, 1], 3), ([0], 3), ([0, 1], 3)]
        for rooms, let in (([6, 3], True), ([5, 4], False), ([6, 2], False), ([7, 2], False), ([5, 3], False)):
            told = ([3, 3, 3], [[(0, 3)], [(0, 3)], [(1, 3)]], [None] * 3)
            self.assertIs(lets_by(rooms, line, *told), let)
        self.refuses([1], [[(0, 1)]], [None], [0], [([0], 1)])

    def test_a_cut_that_is_none(self):
        for cut in (
            None, [], [0], [1], [2], [0, 1, 2], [1, 2], [0, 2], [0, 1, 1], [0, 0, 1], [1, 0, 1, 0], [0, 1, 3],
            [0, 1, -1], [0, 1, -3], [-2, 0], [0, -2], [-3, -2], [0, 1, 10 ** 60], [0, 1, None], [0, "1"], ["0", "1"],
            [0.0, 1.0], [0, 1.0], [[0], [1]], [0, (1,)], (0, 1), {0: 1, 1: 0}, {0, 1}, range(2), iter([0, 1]), "01", 1,
            0, True,
            [[0, 1]], [(0, 1)], [0, 1, Spiteful()], [Spiteful(), 0, 1], [0, 1, own_list()], [0, 1, deep_tuple()],
        ):
            self.refuses(cuts=changed(CUTS, 2, cut))
        for cut in (None, [0], [1], [2], [0, 2], [1, 2], [0, 1, 2], (), {}, "", 0, False, [-1], [3], [None], [[]]):
            self.refuses(cuts=changed(CUTS, 4, cut))
        self.assertIs(lets_by(ROOMS, LINE, GRANTED, ROUTES, changed(CUTS, 4, [0, 1])), True)

    def test_a_place_twice_in_a_cut_with_sums_as_told(self):
        # Through both quotas goes nothing: so the sums would be as told however often a place stands.
        self.refuses([0], [[]], [[0, 0]], [0, 0], [([0], 1)])
        self.refuses([0], [[]], [[0, 1, 1]], [0, 0], [([0], 1)])
        self.assertIs(lets_by([0, 0], [([0], 1)], [0], [[]], [[1, 0]]), True)

    def test_a_place_of_no_quota_in_a_cut_with_sums_as_told(self):
        for place in (-1, -2, 2, 3, 10 ** 60, 0.0, "0", None, Spiteful()):
            self.refuses([0], [[]], [[0, place]], [0, 0], [([0], 1)])
            self.refuses([0], [[]], [[0, 1, place]], [0, 0], [([0], 1)])
        self.refuses([0], [[]], [[0]], [], [([], 1)])

    def test_a_cut_without_one_on_which_the_entry_may_draw(self):
        # The sums of each of these are as told, but the second entry has more to draw on.
        line = [([0], 5), ([0, 1], 5)]
        self.refuses([5, 0], [[(0, 5)], []], [None, [0]], [5, 5], line)
        self.refuses([5, 0], [[(0, 5)], []], [None, []], [5, 5], line)
        self.refuses([5, 0], [[(0, 5)], []], [None, [0, 1]], [5, 5], line)

    def test_a_cut_that_counts_on_those_behind(self):
        line = [([0], 5), ([0], 5)]
        self.refuses([3, 2], [[(0, 3)], [(0, 2)]], [[0], [0]], [5], line)
        self.refuses([0, 5], [[], [(0, 5)]], [[0], None], [5], line)
        self.assertIs(lets_by([5], line, [5, 0], [[(0, 5)], []], [None, [0]]), True)

    def test_lists_too_short_and_too_long(self):
        for short, long in ((GRANTED[:-1], GRANTED + [0]), ([], GRANTED * 2)):
            self.refuses(granted=short)
            self.refuses(granted=long)
        for short, long in ((ROUTES[:-1], ROUTES + [[]]), ([], ROUTES * 2)):
            self.refuses(routes=short)
            self.refuses(routes=long)
        for short, long in ((CUTS[:-1], CUTS + [None]), ([], CUTS * 2)):
            self.refuses(cuts=short)
            self.refuses(cuts=long)
        self.refuses(GRANTED[:-1], ROUTES[:-1], CUTS[:-1])
        self.refuses(GRANTED + [0], ROUTES + [[]], CUTS + [None])
        self.refuses([0], [], [], [], [])
        self.refuses([], [[]], [], [], [])
        self.refuses([], [], [None], [], [])
        # The last one was granted its whole weight, and its cut is not looked at; but it has to be there.
        self.refuses([5], [[(0, 5)]], [], [5], [([0], 5)])

    def test_tuples_and_lists(self):
        self.refuses(granted=tuple(GRANTED))
        self.refuses(routes=tuple(ROUTES))
        self.refuses(cuts=tuple(CUTS))
        for part in ((), {}, "", None, 0, False, range(0), iter([])):
            self.refuses(part, [], [], [], [])
            self.refuses([], part, [], [], [])
            self.refuses([], [], part, [], [])
        for place, route in enumerate(ROUTES):
            self.refuses(routes=changed(ROUTES, place, tuple(route)))
        self.refuses(routes=changed(ROUTES, 2, [[1, 2]]))
        self.refuses(routes=changed(ROUTES, 0, [(0, 4), [1, 1]]))
        self.refuses(routes=changed(ROUTES, 0, [[0, 4], (1, 1)]))
        self.refuses(routes=changed(ROUTES, 2, (1, 2)))
        self.refuses(routes=changed(ROUTES, 2, {1: 2}))
        self.refuses(cuts=changed(CUTS, 2, (0, 1)))
        self.refuses(cuts=changed(CUTS, 4, ()))

    def test_pairs_that_are_none(self):
        for pair in (
            (), (1,), (2,), (1, 2, 0), (1, 2, None), (1, 1, 1), ((1, 2),), (None, 2), (1, None), ("1", 2), (1, "2"),
            (1.0, 2), (1, 2.0), ((1,), 2), (1, (2,)), ([1], 2), (Spiteful(), 2), (1, Spiteful()),
            (Spiteful(), Spiteful()), None, 1, "12", "ab", {}, {1: 2}, [1, 2], b"12", deep_tuple(), own_list(),
        ):
            for place in (1, 2, 3):
                self.refuses(routes=changed(ROUTES, place, [pair]))
            self.refuses(routes=changed(ROUTES, 0, ROUTES[0] + [pair]))
            self.refuses(routes=changed(ROUTES, 0, [pair] + ROUTES[0]))

    def test_things_of_any_kind(self):
        for thing in things():
            self.refuses(granted=thing)
            self.refuses(routes=thing)
            self.refuses(cuts=thing)
            self.refuses(thing, thing, thing)
            self.refuses([thing] * 5, [thing] * 5, [thing] * 5)
            for place in range(5):
                if not isinstance(thing, list) or thing:
                    self.refuses(routes=changed(ROUTES, place, thing))
                self.refuses(routes=changed(ROUTES, place, [thing]))
                self.refuses(routes=changed(ROUTES, place, ROUTES[place] + [thing]))
            for place in (2, 4):
                if not isinstance(thing, list) or thing or place != 4:
                    self.refuses(cuts=changed(CUTS, place, thing))
                if not isinstance(thing, int):
                    self.refuses(cuts=changed(CUTS, place, [thing]))
                    self.refuses(cuts=changed(CUTS, place, [0, 1, thing]))

    def test_a_fault_in_each_entry_of_longer_lines(self):
        for rooms, line in LINES:
            granted, routes, cuts = served(rooms, line)
            for place in range(0, len(line), 1 + len(line) // 6):
                self.refuses(changed(granted, place, granted[place] + 1), routes, cuts, rooms, line)
                self.refuses(changed(granted, place, granted[place] - 1), routes, cuts, rooms, line)
                self.refuses(granted, changed(routes, place, None), cuts, rooms, line)
                if cuts[place] is not None:
                    self.refuses(granted, routes, changed(cuts, place, None), rooms, line)
                    self.refuses(granted, routes, changed(cuts, place, cuts[place] + [len(rooms)]), rooms, line)


class ByWords(unittest.TestCase):
    def test_no_other_grants(self):
        """With all routes that come to them, and many cuts."""
        tried = 0
        for rooms, line in SMALL:
            right = granted_by_sets(rooms, line)
            cuts = [list(some) for some in itertools.product(sets_of(len(rooms)), repeat=len(line))]
            ways = [[list(way.items()) for way in splits_of(rooms, places, weight)] for places, weight in line]
            for routes in itertools.product(*ways):
                granted = [sum(amount for place, amount in route) for route in routes]
                if granted != right:
                    for some in cuts[::1 + len(cuts) // 100]:
                        tried += 1
                        self.assertIs(lets_by(rooms, line, granted, list(routes), some), False)
        self.assertGreater(tried, 10000)

    def drawn(self, draws, rooms, line):
        """What is served, with up to three places changed."""
        granted, routes, cuts = served(rooms, line)
        for _ in range(draws.upto(3)):
            if line:
                place = draws.upto(len(line) - 1)
                one = draws.upto(2)
                if one == 0:
                    granted[place] += draws.one_of([-1, 0, 1])
                elif one == 1:
                    way = draws.one_of(splits_of([2, 2, 2], draws.one_of([line[place][0], [0, 1, 2]]), 3))
                    routes[place] = list(way.items()) + draws.one_of([[], [], [], list(way.items())[:1], [(0, 0)]])
                    granted[place] = draws.one_of([granted[place], sum(way.values())])
                else:
                    cuts[place] = draws.one_of([None, [0, 0], [3], [1, 0]] + sets_of(3))
        return granted, routes, cuts

    def test_drawn_changes(self):
        draws = Draws(7)
        answers = []
        for rooms, line in SMALL * 60:
            told = self.drawn(draws, rooms, line)
            wanted = let_by_words(rooms, line, *told)
            self.assertIs(lets_by(rooms, line, *told), wanted, (rooms, line, told))
            answers.append(wanted)
        self.assertGreater(answers.count(True), 1000)
        self.assertGreater(answers.count(False), 1000)

    def test_what_was_handed_in_stays(self):
        for rooms, line in LINES + [(ROOMS, LINE)]:
            told = served(rooms, line)
            handed = copy.deepcopy((rooms, line) + told)
            lets_by(*handed)
            self.assertEqual(handed, (rooms, line) + told)


if __name__ == "__main__":
    unittest.main()
