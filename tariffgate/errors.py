"""The refusals, one class for each."""


class TariffError(ValueError):
    pass


class NoNumber(TariffError):
    pass


class NoBands(TariffError):
    pass


class NoKinds(TariffError):
    pass


class NoGoods(TariffError):
    pass


class NoNote(TariffError):
    pass


class NoTree(TariffError):
    pass


# A refusal outlives the deed that met it, so it keeps a parcel of its own:
# what is done later to the list that was handed in must not reach it.
def parcel_kept(parcel):
    if isinstance(parcel, list):
        return list(parcel)
    return parcel


class NoneClaims(TariffError):
    def __init__(self, parcel, at):
        TariffError.__init__(self, "no note claims the parcel")
        self.parcel = parcel_kept(parcel)
        self.at = at


class TwoClaim(TariffError):
    def __init__(self, parcel, at, one, other):
        TariffError.__init__(self, "two notes claim the parcel")
        self.parcel = parcel_kept(parcel)
        self.at = at
        self.one = one
        self.other = other


class NoRule(TariffError):
    pass


class NoLot(TariffError):
    pass


class NoQuota(TariffError):
    pass


class NoRate(TariffError):
    pass


class NoEntry(TariffError):
    pass


class NoDeed(TariffError):
    pass


class NoRow(TariffError):
    pass
