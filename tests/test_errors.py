import unittest

from tariffgate import errors
from tariffgate.errors import NoneClaims, TariffError, TwoClaim
from things import no_wholes, named

NAMES = [
    "NoNumber", "NoBands", "NoKinds", "NoGoods", "NoNote", "NoTree", "NoneClaims", "TwoClaim",
    "NoRule", "NoLot", "NoQuota", "NoRate", "NoEntry", "NoDeed", "NoRow",
]


def made(name):
    if name == "NoneClaims":
        return NoneClaims([("iron", "tool", 1)], ())
    if name == "TwoClaim":
        return TwoClaim([("iron", "tool", 1)], (84,), (84, 1), (84, 2))
    return getattr(errors, name)("some words")


class EachRefusal(unittest.TestCase):
    def test_there_are_fifteen(self):
        self.assertEqual(len(set(NAMES)), 15)

    def test_each_is_a_tariff_error_and_a_value_error(self):
        self.assertTrue(issubclass(TariffError, ValueError))
        for name in NAMES:
            with self.subTest(name):
                self.assertIsInstance(made(name), TariffError)
                self.assertIsInstance(made(name), ValueError)

    def test_none_stands_under_another_one(self):
        for name in NAMES:
            for other in NAMES:
                with self.subTest(name, other=other):
                    self.assertEqual(isinstance(made(name), getattr(errors, other)), name == other)

    def test_a_tariff_error_itself_is_none_of_them(self):
        for name in NAMES:
            with self.subTest(name):
                self.assertNotIsInstance(TariffError("some words"), getattr(errors, name))

    def test_each_is_raised_and_taken_by_its_name(self):
        for name in NAMES:
            with self.subTest(name):
                with self.assertRaises(getattr(errors, name)):
                    raise made(name)
                with self.assertRaises(TariffError):
                    raise made(name)


class Fields(unittest.TestCase):
    def test_none_claims(self):
        parcel = [("iron", "tool", 1), ("wood", "toy", 2)]
        refusal = NoneClaims(parcel, (84, 71))
        self.assertEqual(refusal.parcel, [("iron", "tool", 1), ("wood", "toy", 2)])
        self.assertEqual(refusal.at, (84, 71))

    def test_two_claim(self):
        refusal = TwoClaim([("iron", "tool", 1)], (), (84,), (85,))
        self.assertEqual(refusal.parcel, [("iron", "tool", 1)])
        self.assertEqual(refusal.at, ())
        self.assertEqual(refusal.one, (84,))
        self.assertEqual(refusal.other, (85,))

    def test_fields_go_by_their_names_too(self):
        refusal = TwoClaim(other=(4,), one=(3,), at=(2,), parcel=[])
        self.assertEqual((refusal.parcel, refusal.at, refusal.one, refusal.other), ([], (2,), (3,), (4,)))
        refusal = NoneClaims(at=(2,), parcel=[])
        self.assertEqual((refusal.parcel, refusal.at), ([], (2,)))

    def test_they_are_still_there_where_it_is_taken(self):
        try:
            raise NoneClaims([("iron", "tool", 1)], (84,))
        except TariffError as refusal:
            self.assertEqual((refusal.parcel, refusal.at), ([("iron", "tool", 1)], (84,)))
        try:
            raise TwoClaim([("iron", "tool", 1)], (84,), (84, 1), (84, 3))
        except TariffError as refusal:
            self.assertEqual((refusal.parcel, refusal.at), ([("iron", "tool", 1)], (84,)))
            self.assertEqual((refusal.one, refusal.other), ((84, 1), (84, 3)))

    def test_what_is_handed_in_keeps_its_kind(self):
        for thing in no_wholes():
            if isinstance(thing, list):
                continue
            with self.subTest(named(thing)):
                refusal = TwoClaim(thing, thing, thing, thing)
                for field in (refusal.parcel, refusal.at, refusal.one, refusal.other):
                    self.assertTrue(field is thing)
                refusal = NoneClaims(thing, thing)
                for field in (refusal.parcel, refusal.at):
                    self.assertTrue(field is thing)

    def test_weights_of_any_size(self):
        parcel = [("iron", "tool", 10 ** 5000)]
        self.assertTrue(NoneClaims(parcel, ()).parcel == parcel)
        self.assertTrue(TwoClaim(parcel, (), (1,), (2,)).parcel == parcel)
        str(NoneClaims(parcel, ()))
        str(TwoClaim(parcel, (), (1,), (2,)))

    def test_the_parcel_is_the_refusals_own(self):
        for make in (lambda parcel: NoneClaims(parcel, ()), lambda parcel: TwoClaim(parcel, (), (1,), (2,))):
            parcel = [("iron", "tool", 1)]
            refusal = make(parcel)
            parcel.append(("wood", "toy", 2))
            self.assertEqual(refusal.parcel, [("iron", "tool", 1)])
            refusal.parcel.clear()
            self.assertEqual(parcel, [("iron", "tool", 1), ("wood", "toy", 2)])


if __name__ == "__main__":
    unittest.main()
