"""The refusals, one class for each."""


class PurseError(ValueError):
    pass


class NoWeb(PurseError):
    def __init__(self, place):
        PurseError.__init__(self, f"no web, by the place {place}")
        self.place = place


class Apart(PurseError):
    def __init__(self, houses):
        PurseError.__init__(self, f"from house 0 one comes only to {houses}")
        self.houses = houses


class NoText(PurseError):
    pass


class NoOrder(PurseError):
    pass


class TooMany(PurseError):
    def __init__(self, most):
        PurseError.__init__(self, f"more than {most}")
        self.most = most


class NotSettled(PurseError):
    pass


class NoTree(PurseError):
    pass


class NoTotal(PurseError):
    def __init__(self, total):
        PurseError.__init__(self, f"the total {total} is not the one that is asked for")
        self.total = total


class NoEnds(PurseError):
    pass


class NoRow(PurseError):
    pass


class NoName(PurseError):
    pass
