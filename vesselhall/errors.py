"""The refusals: one class for each, all of them straight under VesselError."""


class VesselError(ValueError):
    pass


class NoFraction(VesselError):
    pass


class NoStuffs(VesselError):
    pass


class NoHeap(VesselError):
    pass


class NoPace(VesselError):
    pass


class NoTurnings(VesselError):
    pass


class NoTurning(VesselError):
    pass


class NoText(VesselError):
    def __init__(self, at):
        VesselError.__init__(self, f"no turning's text stands at place {at}")
        self.at = at


class NotNow(VesselError):
    def __init__(self, at):
        VesselError.__init__(self, f"the turning at place {at} of the row cannot be made")
        self.at = at


class TooMany(VesselError):
    def __init__(self, counts):
        VesselError.__init__(self, "the walks come to more than sixty counts")
        self.counts = list(counts)


class NoDrain(VesselError):
    pass


class NotEven(VesselError):
    pass


class NoStuff(VesselError):
    pass


class NoPieces(VesselError):
    pass


class NoDeed(VesselError):
    pass
