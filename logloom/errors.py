"""The refusals: each of its own class, straight under LoomError, with the field that says where or what."""


class LoomError(ValueError):
    pass


class NoRow(LoomError):
    def __init__(self, at):
        self.at = at


class NoFit(LoomError):
    def __init__(self, at):
        self.at = at


class NoGap(LoomError):
    def __init__(self, at):
        self.at = at


class NoForm(LoomError):
    def __init__(self, at):
        self.at = at


class NoQuestion(LoomError):
    def __init__(self, at):
        self.at = at


class TooMany(LoomError):
    def __init__(self, number):
        self.number = number


class TooWide(LoomError):
    def __init__(self, number):
        self.number = number


class TooGreat(LoomError):
    def __init__(self, number):
        self.number = number


class Unknown(LoomError):
    def __init__(self, number):
        self.number = number


class NoParting(LoomError):
    def __init__(self, run):
        self.run = run


class Clash(LoomError):
    def __init__(self, run):
        self.run = run


class Ended(LoomError):
    pass


class Spoiled(LoomError):
    pass


class Untaught(LoomError):
    pass
