"""The refusals: FewError is any of them, each other class is one sort of them."""


class FewError(ValueError):
    pass


class NoName(FewError):
    pass


class Twice(FewError):
    pass


class TooBig(FewError):
    pass


class NoText(FewError):
    pass


class TooFew(FewError):
    pass


class NoDeed(FewError):
    pass


class NotHeld(FewError):
    pass
