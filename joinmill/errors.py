"""The refusals of the program, one class each."""


class MillError(ValueError):
    pass


# A text that is the writing of no face and no unit.
class NoText(MillError):
    pass


# A thing that is no face and no unit.
class NoThing(MillError):
    pass


# A unit that has a fault with the faces that are kept.
class NoFit(MillError):
    pass


# One name more than a shelf keeps.
class NoRoom(MillError):
    pass


# A head from which nothing can be joined.
class NoJoin(MillError):
    pass
