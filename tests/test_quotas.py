import unittest

from tariffgate.errors import NoQuota
from tariffgate.quotas import may_draw, quotas_of
from things import Spiteful, deep_tuple, named, no_names, no_wholes, own_list, things

TOP = 10 ** 15
SAMPLES = [
    [],
    [((), "", 0)],
    [((84,), "salt", TOP)],
    [
        ((84, 71, 1, 9), "z", 1), ((84,), "", 7), ((), "a", 0), ((84,), "", 7), ((99, 99, 99, 99), "abcdefgh", 5),
        ((1,), "a", TOP),
    ],
    [((), "", 5)] * 6,
    [((84,), "a", 5), ((84,), "", 5), ((84,), "a", 6), ((84,), "z", 5)],
]
NUMBERS = [(84,), (84, 71), (84, 71, 1), (84, 71, 1, 9), (84, 7), (8,), (85,), (1,), (71, 84), (99, 99, 99, 99)]
LANDS = ["a", "salt", "z", "abcdefgh", "sal", "salty"]


def quota(prefix=(84,), land="a", room=5):
    return (prefix, land, room)


class Quotas(unittest.TestCase):
    def test_what_is_taken(self):
        for rows in SAMPLES:
            self.assertEqual(quotas_of(rows), rows)
            self.assertIs(quotas_of(rows).__class__, list)
            for row in quotas_of(rows):
                self.assertIs(row.__class__, tuple)

    def test_prefixes_lands_and_rooms(self):
        for prefix in ((), (1,), (99,), (84, 71), (84, 71, 1), (99, 1, 99, 1)):
            for land in ("", "a", "z", "abcdefgh"):
                for room in (0, 1, TOP - 1, TOP):
                    self.assertEqual(quotas_of([(prefix, land, room)]), [(prefix, land, room)])

    def test_the_list_told_is_a_new_one(self):
        handed = list(SAMPLES[3])
        told = quotas_of(handed)
        self.assertIsNot(told, handed)
        told.clear()
        self.assertEqual(handed, SAMPLES[3])
        again = quotas_of(handed)
        handed.pop()
        self.assertEqual(again, SAMPLES[3])
        handed.clear()
        self.assertIsNot(quotas_of(handed), handed)

    def test_what_was_refused_stays_and_may_be_mended(self):
        handed = [quota(), quota(room=-1)]
        with self.assertRaises(NoQuota):
            quotas_of(handed)
        self.assertEqual(handed, [quota(), quota(room=-1)])
        handed[1] = quota(room=0)
        self.assertEqual(quotas_of(handed), [quota(), quota(room=0)])


class Refused(unittest.TestCase):
    def refused(self, rows):
        with self.subTest(named(rows)), self.assertRaises(NoQuota):
            quotas_of(rows)

    def refused_within(self, row):
        """In each place among quotas."""
        for rows in ([row], [row, quota()], [quota(), row], [quota(), row, quota()], [quota()] * 5 + [row]):
            self.refused(rows)

    def test_seven(self):
        for many in (7, 8, 100):
            self.refused([quota()] * many)
            self.refused([((place % 99 + 1,), "", place) for place in range(many)])

    def test_no_list(self):
        for rows in ((), (quota(),), quota(), "", "quota", None, 0, 1, {}, {0: quota()}, {quota(): 1}, Spiteful()):
            self.refused(rows)
        for thing in things():
            if not isinstance(thing, list) or thing:
                self.refused(thing)

    def test_a_quota_that_is_none(self):
        for row in (
            [(84,), "a", 5], (), ((84,),), ((84,), "a"), ((84,), "a", 5, None), ((84,), "a", 5, 5), ("a", (84,), 5),
            ((84,), 5, "a"), (((84,), "a", 5),), None, "abc", {1: 2}, 3, ((), "", ""), ((), (), 5),
        ):
            self.refused_within(row)
        for thing in things():
            self.refused_within(thing)
            self.refused_within((thing,) * 3)

    def test_a_prefix_that_is_none(self):
        for prefix in [thing for thing in things() if not isinstance(thing, tuple)] + [
            (0,), (100,), (-1,), (1, 2, 3, 4, 5), (84, 0), (1.0,), (True,), ("84",), (None,), [84], [], "", "all",
            ((),),
            ((84,),), deep_tuple(), (own_list(),), (Spiteful(),), (84, Spiteful()), (84, False),
        ]:
            self.refused_within(quota(prefix=prefix))

    def test_a_land_that_is_none(self):
        lands = [land for land in no_names() if not (isinstance(land, str) and land == "")]
        for land in lands + ["-", " ", [""], ("",)]:
            self.refused_within(quota(land=land))

    def test_a_room_that_is_none(self):
        for room in no_wholes() + [-1, -TOP, TOP + 1, TOP * 2, 10 ** 60, -10 ** 60]:
            self.refused_within(quota(room=room))


class MayDraw(unittest.TestCase):
    def test_by_hand(self):
        quotas = [
            ((84, 71), "", 5), ((84,), "salt", 0), ((), "", 7), ((84, 71, 1, 9), "salt", 1), ((), "z", 2),
            ((8,), "", 2),
        ]
        for number, land, places in (
            ((84, 71, 1, 9), "salt", [0, 1, 2, 3]), ((84, 71, 1, 9), "z", [0, 2, 4]), ((84, 71), "salt", [0, 1, 2]),
            ((84, 71), "a", [0, 2]), ((84,), "salt", [1, 2]), ((84,), "z", [2, 4]), ((84, 7), "salt", [1, 2]),
            ((8,), "a", [2, 5]), ((8, 4), "sal", [2, 5]), ((71,), "salty", [2]), ((84, 71, 1), "salt", [0, 1, 2]),
        ):
            with self.subTest(number=number, land=land):
                self.assertEqual(may_draw(quotas, number, land), places)

    def test_none(self):
        self.assertEqual(may_draw([], (84,), "a"), [])
        self.assertEqual(may_draw([((85,), "", 5), ((84, 1), "", 5), ((84,), "z", 5)], (84,), "a"), [])

    def test_the_room_is_not_asked_for(self):
        self.assertEqual(may_draw([((), "", 0), ((84,), "a", TOP), ((84,), "a", 0)], (84,), "a"), [0, 1, 2])

    def test_some_alike(self):
        self.assertEqual(may_draw([((), "", 5)] * 6, (84, 71), "a"), [0, 1, 2, 3, 4, 5])

    def test_by_the_words_of_the_document(self):
        for quotas in SAMPLES:
            for number in NUMBERS:
                for land in LANDS:
                    fitting = [(number[:many], whose) for many in range(len(number) + 1) for whose in ("", land)]
                    places = [place for place, row in enumerate(quotas) if row[:2] in fitting]
                    told = may_draw(quotas_of(quotas), number, land)
                    self.assertEqual(told, places)
                    self.assertIs(told.__class__, list)

    def test_what_was_handed_in_stays_and_what_is_told_is_new(self):
        handed = list(SAMPLES[4])
        told = may_draw(handed, (84,), "a")
        again = may_draw(handed, (84,), "a")
        told.clear()
        self.assertEqual(handed, SAMPLES[4])
        handed.clear()
        self.assertEqual(again, [0, 1, 2, 3, 4, 5])


if __name__ == "__main__":
    unittest.main()
