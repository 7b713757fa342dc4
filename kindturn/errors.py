"""The refusals of kindturn, one class each."""


class KindError(ValueError):
    pass


class NotRead(KindError):
    pass


class NoTurning(KindError):
    pass


class NoNumber(KindError):
    pass


class NoThing(KindError):
    pass


class Unlike(KindError):
    pass
