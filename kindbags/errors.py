"""The refusals. Each stands right under BagError, so that all can be taken as one."""


class BagError(ValueError):
    pass


class NoText(BagError):
    def __init__(self, at):
        BagError.__init__(self, at)
        self.at = at


class NoName(BagError):
    def __init__(self, name):
        BagError.__init__(self, name)
        self.name = name


class NoRule(BagError):
    pass


class NoPaper(BagError):
    def __init__(self, at):
        BagError.__init__(self, at)
        self.at = at


class NoFit(BagError):
    pass


class NoData(BagError):
    pass


class NoRoom(BagError):
    pass


class NoRow(BagError):
    pass
