"""The refusals: each straight under TrueleafError, none under another."""


class TrueleafError(ValueError):
    pass


class BadRow(TrueleafError):
    pass


class NoPart(TrueleafError):
    pass


class Ring(TrueleafError):
    pass


class TooLong(TrueleafError):
    pass


class BadCall(TrueleafError):
    pass


class Deep(TrueleafError):
    pass


class NoShort(TrueleafError):
    pass


class BadForm(TrueleafError):
    pass


class BadWord(TrueleafError):
    pass


class BadPaper(TrueleafError):
    pass


class NoGrowth(TrueleafError):
    pass


class Twice(TrueleafError):
    pass


class NoFoot(TrueleafError):
    pass


class NoMark(TrueleafError):
    pass


class NoLaying(TrueleafError):
    pass


class BadName(TrueleafError):
    pass


class NoRow(TrueleafError):
    pass


class NothingDone(TrueleafError):
    pass
