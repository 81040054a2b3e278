"""The refusals: each is a NetError, and none stands under another one."""


class NetError(ValueError):
    pass


class NoNet(NetError):
    pass


class NoLane(NetError):
    pass


class NoWalker(NetError):
    pass


class TooMany(NetError):
    pass


class NoText(NetError):
    pass


class NoRow(NetError):
    pass


class NoName(NetError):
    def __init__(self, name):
        NetError.__init__(self, name)
        self.name = name
