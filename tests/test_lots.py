import unittest

from tariffgate.errors import NoLot
from tariffgate.lots import chain_of, lots_of, origins_of, worths_of
from tariffgate.rules import rules_of
from things import Draws, Spiteful, deep_tuple, enough_by_words, named, no_names, no_wholes, own_list, things

TOP = 10 ** 12
GROWN = ("grown",)
HALF = ("share", (1, 2))
NEVER = ("share", (1, 1))

LANDS = ["a", "salt", "z", "abcdefgh", "sal"]
NUMBERS = [(84,), (84, 71), (84, 71, 1), (84, 71, 1, 9), (85,), (1,), (99, 99, 99, 99), (8,)]
RULES = (
    [GROWN, NEVER, HALF, ("share", (0, 1)), ("share", (2, 3)), ("share", (1, 10 ** 9))]
    + [("change", deep) for deep in (1, 2, 3, 4)]
    + [("all", ("change", 1), HALF), ("some", GROWN, ("all", ("change", 2), ("share", (1, 3)))), ("some", NEVER, HALF)]
)


def lot(land="a", number=(84,), price=10, inputs=()):
    return (land, number, price, inputs)


def drawn_lots(seed):
    """Lots with inputs in whatever order, some of them with nothing added."""
    draws = Draws(seed)
    lots = []
    for place in range(1 + draws.upto(23)):
        inputs = []
        for _ in range(draws.upto(min(4, place))):
            other = draws.upto(place - 1)
            if other not in inputs and sum(lots[one][2] for one in inputs) + lots[other][2] <= TOP:
                inputs.append(other)
        paid = sum(lots[other][2] for other in inputs)
        price = max(1, paid + draws.one_of([0, 0, 1, draws.upto(3), draws.upto(20)]))
        lots.append((draws.one_of(LANDS[:2 + seed % 4]), draws.one_of(NUMBERS), price, tuple(inputs)))
    return lots


def drawn_rules(seed):
    draws = Draws(seed + 1000)
    prefixes = [()] + [number for number in NUMBERS if draws.upto(1)]
    return [(prefix, draws.one_of(RULES)) for prefix in prefixes[::-1]]


CHAIN = [lot("a" if place % 2 else "z", (84, 71), place + 1, (place - 1,) if place else ()) for place in range(24)]
# The first one goes into two, which go into one.
MET = [lot("z", (1,), 5), lot("a", (2,), 7, (0,)), lot("m", (3,), 9, (0,)), lot("a", (4,), 20, (2, 1))]
DEAREST = [lot("a", (1,), TOP), lot("z", (99, 99, 99, 99), TOP, (0,)), lot("a", (1,), 1)]
WIDE = [lot("b", (place + 1,), place + 1) for place in range(20)]
WIDE += [lot(price=sum(inputs) + len(inputs), inputs=inputs) for inputs in ((1,), (1, 2), (3, 0, 1), (0, 3, 2, 1))]
SAMPLES = [[], [lot()], CHAIN, MET, DEAREST, WIDE] + [drawn_lots(seed) for seed in range(120)]


def added_by_words(lots):
    """What the lands have added to each lot, as a list of dicts, with nothing of the program."""
    tables = []
    for land, number, price, inputs in lots:
        lands = {land} | {where for other in inputs for where in tables[other]}
        table = {where: sum(tables[other].get(where, 0) for other in inputs) for where in lands}
        table[land] += price - sum(lots[other][2] for other in inputs)
        tables.append({where: worth for where, worth in table.items() if worth})
    return tables


def origins_by_words(rules, lots):
    origins = []
    for (land, number, price, inputs), table in zip(lots, added_by_words(lots)):
        foreign = [lots[other][1] for other in inputs if origins[other][0] != land]
        fitting = [row for row in rules if number[:len(row[0])] == row[0]]
        rule = max(fitting, key=lambda row: len(row[0]))[1]
        if enough_by_words(rule, number, price, table.get(land, 0), foreign):
            origins.append((land, True, None))
            continue
        greatest = max(lots[other][2] for other in inputs)
        source = [other for other in inputs if lots[other][2] == greatest][0]
        origins.append((origins[source][0], False, source))
    return origins


class Lots(unittest.TestCase):
    def test_what_is_taken(self):
        for rows in SAMPLES:
            self.assertEqual(lots_of(rows), rows)
            self.assertIs(lots_of(rows).__class__, list)
            for row in lots_of(rows):
                self.assertIs(row.__class__, tuple)
        self.assertEqual([len(rows) for rows in SAMPLES[:6]], [0, 1, 24, 4, 3, 24])

    def test_lands_and_numbers(self):
        for land in ("a", "z", "abcdefgh", "zzzzzzzz"):
            for number in ((1,), (99,), (1, 99), (84, 71, 1), (99, 99, 99, 99), (1, 1, 1, 1)):
                self.assertEqual(lots_of([(land, number, 1, ())]), [(land, number, 1, ())])

    def test_prices(self):
        for price in (1, 2, TOP - 1, TOP):
            self.assertEqual(lots_of([lot(price=price)]), [lot(price=price)])

    def test_inputs_just_as_dear(self):
        for prices in ((1,), (TOP,), (3, 4), (4, 3), (1, 1, 1), (TOP - 3, 1, 1, 1), (10, 20, 30, 40)):
            rows = [lot(price=price) for price in prices]
            inputs = tuple(range(len(prices)))
            for order in (inputs, inputs[::-1], inputs[1:] + inputs[:1]):
                rows_with = rows + [lot("z", (1,), sum(prices), order)]
                self.assertEqual(lots_of(rows_with), rows_with)

    def test_each_lot_ahead_may_go_in(self):
        rows = [lot(price=1) for _ in range(23)]
        for place in range(23):
            self.assertEqual(lots_of(rows + [lot(inputs=(place,))])[-1], lot(inputs=(place,)))

    def test_a_lot_may_go_into_several(self):
        rows = [lot(price=9)] + [lot(price=9, inputs=(0,)) for _ in range(23)]
        self.assertEqual(lots_of(rows), rows)

    def test_the_list_told_is_a_new_one(self):
        handed = list(MET)
        told = lots_of(handed)
        self.assertIsNot(told, handed)
        told.pop()
        told.insert(0, None)
        self.assertEqual(handed, MET)
        again = lots_of(handed)
        handed.clear()
        self.assertEqual(again, MET)
        self.assertIsNot(lots_of(handed), handed)

    def test_what_was_refused_stays_and_may_be_mended(self):
        handed = [lot(price=5), lot(price=4, inputs=(0,))]
        with self.assertRaises(NoLot):
            lots_of(handed)
        self.assertEqual(handed, [lot(price=5), lot(price=4, inputs=(0,))])
        handed[1] = lot(price=5, inputs=(0,))
        self.assertEqual(lots_of(handed), [lot(price=5), lot(price=5, inputs=(0,))])


class LotsRefused(unittest.TestCase):
    def refused(self, rows):
        with self.subTest(named(rows)), self.assertRaises(NoLot):
            lots_of(rows)

    def refused_within(self, row):
        """In each place among lots."""
        good = lot(price=1)
        for rows in ([row], [row, good], [good, row], [good, good, row, good], [good] * 23 + [row]):
            self.refused(rows)

    def test_twenty_five(self):
        self.refused([lot()] * 25)
        self.refused([lot()] * 1000)
        self.refused(CHAIN + [lot()])

    def test_no_list(self):
        for rows in ((), (lot(),), "", "lot", None, 0, 1, {}, {0: lot()}, {lot(): 0}, lot(), iter([lot()]), Spiteful()):
            self.refused(rows)
        for thing in things():
            if not isinstance(thing, list) or thing:
                self.refused(thing)

    def test_a_lot_that_is_none(self):
        for row in (
            ["a", (84,), 10, ()], (), ("a",), ("a", (84,)), ("a", (84,), 10), ("a", (84,), 10, (), ()),
            ("a", (84,), 10, (), None), ((84,), "a", 10, ()), ("a", 10, (84,), ()), (("a", (84,), 10, ()),), None, "a",
            {"a": 1}, 4, "abcd", b"abcd",
        ):
            self.refused_within(row)
        for thing in things():
            self.refused_within(thing)
            self.refused_within((thing,) * 4)

    def test_a_land_that_is_none(self):
        for land in no_names() + ["", "-", ("a",), ["a"]]:
            self.refused_within(lot(land=land))

    def test_a_number_that_is_none(self):
        for number in [thing for thing in things() if not isinstance(thing, tuple)] + [
            (), (0,), (100,), (-1,), (1, 2, 3, 4, 5), (84, 0), (84, 100), (1.0,), (True,), ("84",), (None,), [84],
            "84", ((84,),), deep_tuple(), (own_list(),), (Spiteful(),), (84, Spiteful()), (84, True),
        ]:
            self.refused_within(lot(number=number))

    def test_a_price_that_is_none(self):
        for price in no_wholes() + [0, -1, -10, TOP + 1, TOP * 2, 10 ** 60, -10 ** 60]:
            self.refused_within(lot(price=price))

    def test_inputs_that_are_none(self):
        ahead = [lot(price=1) for _ in range(6)]
        for inputs in (
            [], [0], [0, 1], None, 0, 1, True, False, "", "0", {}, {0: 1}, set(), frozenset([0]), range(2), iter([0]),
            (0, 1, 2, 3, 4), (5, 4, 3, 2, 1, 0), (0, 0), (1, 0, 1), (3, 2, 1, 3), (5, 5, 5, 5), (0,) * 1000, (6,), (7,),
            (0, 6), (10 ** 60,), (-1,), (0, -1), (-6,), (True,), (False,), (0, True), (False, 1), ("0",), (0, "1"),
            (None,), (0, None), (0.0,), (1.0, 0), ((0,),), ([0],), (0, ()), Spiteful(), (Spiteful(),), (0, Spiteful()),
            (Spiteful(), Spiteful()), deep_tuple(), own_list(), (own_list(),), (float("nan"),),
        ):
            for behind in ([], [lot(price=1)], [lot(price=1)] * 10):
                self.refused(ahead + [lot(price=100, inputs=inputs)] + behind)
        for thing in things():
            if not isinstance(thing, tuple):
                self.refused(ahead + [lot(price=100, inputs=thing)])
            if thing.__class__ is not int:
                self.refused(ahead + [lot(price=100, inputs=(thing,))])
                self.refused(ahead + [lot(price=100, inputs=(2, thing))])

    def test_a_place_of_itself_or_behind(self):
        for place in range(4):
            for other in range(place, 5):
                rows = [lot(price=10) for _ in range(4)]
                rows[place] = lot(price=100, inputs=(other,))
                self.refused(rows)
                if place:
                    rows[place] = lot(price=100, inputs=(0, other))
                    self.refused(rows)

    def test_inputs_dearer_by_one(self):
        for prices in ((2,), (TOP,), (3, 4), (4, 3), (1, 1, 1), (TOP - 3, 1, 1, 1), (10, 20, 30, 40)):
            rows = [lot(price=price) for price in prices]
            inputs = tuple(range(len(prices)))
            for order in (inputs, inputs[::-1], inputs[1:] + inputs[:1]):
                self.refused(rows + [lot("z", (1,), sum(prices) - 1, order)])
        self.refused([lot(price=TOP), lot(price=TOP), lot(price=TOP, inputs=(0, 1))])


class Worths(unittest.TestCase):
    def test_without_inputs(self):
        self.assertEqual(worths_of([]), [])
        self.assertEqual(worths_of([lot("z", (1,), 5)]), [[("z", 5)]])
        self.assertEqual(worths_of([lot("z", (1,), TOP), lot("a", (1,), 1)]), [[("z", TOP)], [("a", 1)]])

    def test_along_a_chain(self):
        rows = [lot("z", (1,), 5), lot("a", (1,), 8, (0,)), lot("z", (1,), 10, (1,)), lot("m", (1,), 17, (2,))]
        self.assertEqual(worths_of(rows), [
            [("z", 5)], [("a", 3), ("z", 5)], [("a", 3), ("z", 7)], [("a", 3), ("m", 7), ("z", 7)],
        ])
        self.assertEqual(worths_of(CHAIN)[23], [("a", 12), ("z", 12)])

    def test_of_lots_that_meet_again(self):
        self.assertEqual(worths_of(MET), [
            [("z", 5)], [("a", 2), ("z", 5)], [("m", 4), ("z", 5)], [("a", 6), ("m", 4), ("z", 10)],
        ])

    def test_nothing_added(self):
        rows = [lot("z", (1,), 5), lot("a", (1,), 5, (0,)), lot("z", (1,), 6, (1,)), lot("a", (1,), 11, (2, 1))]
        self.assertEqual(worths_of(rows), [[("z", 5)], [("z", 5)], [("z", 6)], [("z", 11)]])
        rows = [lot("a", (1,), 2), lot("z", (1,), 3), lot("a", (1,), 5, (1, 0))]
        self.assertEqual(worths_of(rows)[2], [("a", 2), ("z", 3)])

    def test_four_inputs(self):
        rows = [lot(land, (1,), price) for land, price in (("d", 1), ("b", 2), ("d", 4), ("a", 8), ("e", 99))]
        rows.append(lot("c", (1,), 31, (3, 0, 2, 1)))
        self.assertEqual(worths_of(rows)[-1], [("a", 8), ("b", 2), ("c", 16), ("d", 5)])

    def test_by_the_words_of_the_document(self):
        for lots in SAMPLES:
            self.assertEqual([dict(table) for table in worths_of(lots)], added_by_words(lots))

    def test_the_form(self):
        for lots in SAMPLES:
            tables = worths_of(lots)
            self.assertIs(tables.__class__, list)
            self.assertEqual(len(tables), len(lots))
            for (land, number, price, inputs), table in zip(lots, tables):
                self.assertIs(table.__class__, list)
                self.assertEqual(table, sorted(table))
                self.assertEqual(len({where for where, worth in table}), len(table))
                self.assertEqual(sum(worth for where, worth in table), price)
                for row in table:
                    self.assertIs(row.__class__, tuple)
                    self.assertGreater(row[1], 0)

    def test_the_lists_told_are_new_ones(self):
        handed = list(MET)
        told = worths_of(handed)
        self.assertEqual(handed, MET)
        again = worths_of(handed)
        for table in told:
            table.clear()
        told.clear()
        handed.clear()
        self.assertEqual(again, worths_of(MET))
        rows = [lot("z", (1,), 5), lot("z", (1,), 5, (0,)), lot("a", (1,), 5, (1,))]
        told = worths_of(rows)
        told[0].clear()
        self.assertEqual(told[1:], [[("z", 5)], [("z", 5)]])


class Origins(unittest.TestCase):
    def origins(self, rule, lots):
        """By a rule for all numbers."""
        return origins_of(rules_of([((), rule)]), lots_of(lots))

    def last(self, rule, lots, origin):
        with self.subTest(rule):
            self.assertEqual(self.origins(rule, lots)[-1], origin)

    def test_without_inputs(self):
        for rule in RULES:
            self.assertEqual(self.origins(rule, []), [])
            for price in (1, TOP):
                lots = [lot("a", (84,), price), lot("z", (1, 2, 3, 4), price)]
                self.assertEqual(self.origins(rule, lots), [("a", True, None), ("z", True, None)])

    def test_grown(self):
        self.last(GROWN, [lot("z"), lot("a", inputs=(0,))], ("z", False, 0))
        self.last(GROWN, [lot("a"), lot("a", inputs=(0,))], ("a", True, None))
        self.last(GROWN, [lot("a", price=4), lot("z", price=1), lot("a", inputs=(0, 1))], ("a", False, 0))

    def test_change(self):
        for other, same in (((84, 71, 1, 9), 4), ((84, 71, 1), 3), ((84, 71, 2, 9), 2), ((84,), 1), ((71,), 0)):
            for deep in (1, 2, 3, 4):
                lots = [lot("z", other), lot("a", (84, 71, 1, 9), inputs=(0,))]
                self.last(("change", deep), lots, ("a", True, None) if deep > same else ("z", False, 0))
        self.last(("change", 1), [lot("a", (84,)), lot("a", (84,), inputs=(0,))], ("a", True, None))

    def test_share(self):
        for paid, origin in ((5, ("a", True, None)), (6, ("z", False, 0)), (10, ("z", False, 0))):
            self.last(HALF, [lot("z", price=paid), lot("a", price=10, inputs=(0,))], origin)
        self.last(NEVER, [lot("z", price=1), lot("a", price=TOP, inputs=(0,))], ("z", False, 0))
        self.last(NEVER, [lot("a", price=9), lot("a", price=TOP, inputs=(0,))], ("a", True, None))

    def test_all_and_some(self):
        for price, number, whole, part in ((9, (84,), 0, 0), (9, (85,), 0, 1), (1, (84,), 0, 1), (1, (85,), 1, 1)):
            lots = [lot("z", number, price), lot("a", (84,), 10, (0,))]
            self.last(("all", ("change", 1), HALF), lots, ("a", True, None) if whole else ("z", False, 0))
            self.last(("some", ("change", 1), HALF), lots, ("a", True, None) if part else ("z", False, 0))

    def test_the_nearest_prefix(self):
        rules = rules_of([((84, 71), ("share", (0, 1))), ((8,), NEVER), ((), GROWN), ((84,), HALF)])
        for number, paid, enough in (
            ((84, 71), 10, True), ((84, 71, 3), 10, True), ((84,), 5, True), ((84,), 6, False), ((84, 72), 6, False),
            ((84, 72), 5, True), ((85,), 1, False), ((8,), 1, False), ((8, 4), 1, False), ((71, 84), 1, False),
        ):
            lots = [lot("z", (1,), paid), lot("a", number, 10, (0,))]
            self.assertEqual(origins_of(rules, lots)[1], ("a", True, None) if enough else ("z", False, 0))

    def test_the_own_worth_of_a_lot_that_nothing_was_added_to(self):
        for rule, origin in (
            (("share", (0, 1)), ("a", True, None)), (("share", (1, 10 ** 9)), ("z", False, 0)),
            (NEVER, ("z", False, 0)),
        ):
            self.last(rule, [lot("z", price=1), lot("a", price=1, inputs=(0,))], origin)
            self.last(rule, [lot("z", price=TOP), lot("a", price=TOP, inputs=(0,))], origin)

    def test_the_own_worth_goes_along_the_chain(self):
        lots = [lot("a", price=4), lot("z", price=7, inputs=(0,)), lot("a", price=8, inputs=(1,))]
        self.assertEqual(self.origins(HALF, lots), [("a", True, None), ("a", False, 0), ("a", True, None)])
        lots[2] = lot("a", price=11, inputs=(1,))
        self.assertEqual(self.origins(("share", (8, 11)), lots)[2], ("a", True, None))
        self.assertEqual(self.origins(("share", (9, 11)), lots)[2], ("a", False, 1))

    def test_the_dearest_input(self):
        lots = [lot("b", price=3), lot("c", price=9), lot("d", price=5), lot("e", price=9), lot("f", price=10)]
        for inputs, source in (
            ((0,), 0), ((0, 2), 2), ((2, 0), 2), ((0, 1, 2), 1), ((2, 1, 0), 1), ((0, 1, 2, 3), 1), ((3, 2, 1, 0), 3),
            ((3, 1), 3), ((1, 3), 1), ((0, 3, 2, 1), 3), ((2, 1, 3), 1), ((1, 3, 4), 4), ((4, 3), 4), ((3, 0, 4, 1), 4),
        ):
            told = self.origins(GROWN, lots + [lot("a", price=31, inputs=inputs)])[-1]
            self.assertEqual(told, ("bcdef"[source], False, source))

    def test_several_just_as_dear_the_one_named_first(self):
        lots = [lot(land, price=7) for land in "bcde"]
        for inputs in ((2, 0, 1), (3, 2, 1, 0), (1, 3), (0, 1, 2, 3), (2, 3, 0)):
            told = self.origins(GROWN, lots + [lot("a", price=28, inputs=inputs)])[-1]
            self.assertEqual(told, ("bcde"[inputs[0]], False, inputs[0]))

    def test_the_origin_may_be_the_own_land_again(self):
        lots = [lot("a", price=9), lot("z", price=9), lot("a", price=20, inputs=(0, 1))]
        self.assertEqual(self.origins(GROWN, lots)[2], ("a", False, 0))
        lots[2] = lot("a", price=20, inputs=(1, 0))
        self.assertEqual(self.origins(GROWN, lots)[2], ("z", False, 1))

    def test_foreign_is_what_comes_from_another_land_not_what_was_made_there(self):
        # The second one was made in z, but comes from a: so to the third, made in a, nothing is foreign.
        rules = rules_of([((2,), NEVER), ((), GROWN)])
        lots = [lot("a", (1,)), lot("z", (2,), inputs=(0,)), lot("a", (3,), inputs=(1,))]
        self.assertEqual(origins_of(rules, lots), [("a", True, None), ("a", False, 0), ("a", True, None)])
        # Here it was made in a, but comes from z.
        lots = [lot("z", (1,)), lot("a", (2,), inputs=(0,)), lot("a", (3,), inputs=(1,))]
        self.assertEqual(origins_of(rules, lots), [("z", True, None), ("z", False, 0), ("z", False, 1)])
        lots[2] = lot("a", (2, 1), inputs=(1,))
        for deep, origin in ((1, ("z", False, 1)), (2, ("a", True, None))):
            rules = rules_of([((2,), NEVER), ((2, 1), ("change", deep)), ((), GROWN)])
            self.assertEqual(origins_of(rules, lots)[2], origin)

    def test_by_the_words_of_the_document(self):
        told = []
        for seed, lots in enumerate(SAMPLES):
            for rules in [drawn_rules(seed), drawn_rules(seed + 500)] + [[((), rule)] for rule in RULES[seed % 3::3]]:
                origins = origins_of(rules_of(rules), lots_of(lots))
                self.assertEqual(origins, origins_by_words(rules, lots), (rules, lots))
                told += origins
        self.assertGreater(len([origin for origin in told if origin[1]]), 1000)
        self.assertGreater(len([origin for origin in told if not origin[1]]), 1000)

    def test_the_form(self):
        for seed, lots in enumerate(SAMPLES):
            origins = origins_of(drawn_rules(seed), lots)
            self.assertIs(origins.__class__, list)
            self.assertEqual(len(origins), len(lots))
            for origin in origins:
                self.assertIs(origin.__class__, tuple)
                self.assertIn(origin[1], (True, False))
                self.assertIs(origin[1].__class__, bool)
                self.assertIs(origin[2].__class__, None.__class__ if origin[1] else int)

    def test_nothing_hangs_on_what_stands_behind(self):
        for seed, lots in enumerate(SAMPLES):
            rules = drawn_rules(seed)
            for many in range(0, len(lots), 5):
                self.assertEqual(origins_of(rules, lots[:many]), origins_of(rules, lots)[:many])

    def test_what_was_handed_in_stays_and_what_is_told_is_new(self):
        rules = [((84,), HALF), ((), GROWN)]
        lots = list(MET)
        told = origins_of(rules, lots)
        again = origins_of(rules, lots)
        self.assertEqual((rules, lots), ([((84,), HALF), ((), GROWN)], MET))
        told.clear()
        lots.clear()
        self.assertEqual(again, origins_of(rules, MET))


class Chains(unittest.TestCase):
    def test_by_hand(self):
        origins = [
            ("z", True, None), ("z", False, 0), ("a", True, None), ("z", False, 1), ("a", False, 2), ("z", False, 3),
        ]
        for place, chain in enumerate(([0], [1, 0], [2], [3, 1, 0], [4, 2], [5, 3, 1, 0])):
            self.assertEqual(chain_of(origins, place), chain)

    def test_along_all(self):
        lots = [lot("z", price=1)] + [lot("a", price=1, inputs=(place,)) for place in range(23)]
        origins = origins_of([((), GROWN)], lots_of(lots))
        for place in range(24):
            self.assertEqual(chain_of(origins, place), list(range(place, -1, -1)))

    def test_each_leads_to_one_that_was_worked_enough(self):
        longest = 0
        for seed, lots in enumerate(SAMPLES):
            for rules in (drawn_rules(seed), [((), NEVER)]):
                origins = origins_of(rules, lots)
                for place in range(len(lots)):
                    chain = chain_of(origins, place)
                    self.assertIs(chain.__class__, list)
                    self.assertEqual(chain[0], place)
                    self.assertEqual([origins[one][2] for one in chain], chain[1:] + [None])
                    self.assertEqual([origins[one][1] for one in chain], [False] * (len(chain) - 1) + [True])
                    self.assertEqual({origins[one][0] for one in chain}, {lots[chain[-1]][0]})
                    longest = max(longest, len(chain))
        self.assertGreater(longest, 4)

    def test_what_was_handed_in_stays_and_what_is_told_is_new(self):
        origins = [("z", True, None), ("z", False, 0)]
        told = chain_of(origins, 1)
        told.clear()
        self.assertEqual(chain_of(origins, 1), [1, 0])
        self.assertEqual(origins, [("z", True, None), ("z", False, 0)])


if __name__ == "__main__":
    unittest.main()
