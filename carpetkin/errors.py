"""The refusals of all stages, each straight under CarpetError."""


# Those with fields are made of their fields alone and keep them as their args
# too, so that a copy of a refusal can be made of what it holds.
class CarpetError(ValueError):
    pass


class NoCloth(CarpetError):
    pass


class NoFit(CarpetError):
    pass


class TooBig(CarpetError):
    pass


class NoText(CarpetError):
    def __init__(self, row):
        CarpetError.__init__(self, row)
        self.row = row


class NoName(CarpetError):
    def __init__(self, row, name):
        CarpetError.__init__(self, row, name)
        self.row = row
        self.name = name


class Misfit(CarpetError):
    def __init__(self, row):
        CarpetError.__init__(self, row)
        self.row = row


class TooWide(CarpetError):
    def __init__(self, row):
        CarpetError.__init__(self, row)
        self.row = row


class NoFold(CarpetError):
    pass


class NoWeaving(CarpetError):
    pass


class Unlike(CarpetError):
    pass


class TooLarge(CarpetError):
    def __init__(self, many):
        CarpetError.__init__(self, many)
        self.many = many


class NoColour(CarpetError):
    def __init__(self, colour):
        CarpetError.__init__(self, colour)
        self.colour = colour


class NoNumber(CarpetError):
    pass


class NoWish(CarpetError):
    def __init__(self, place):
        CarpetError.__init__(self, place)
        self.place = place


class NoRow(CarpetError):
    pass


class Nobody(CarpetError):
    pass


class NoCarpet(CarpetError):
    pass
