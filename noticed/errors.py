"""The refusals, one class for each."""


class OrderError(ValueError):
    pass


class NoOrder(OrderError):
    pass


class NoNumbers(OrderError):
    pass


class NoStep(OrderError):
    pass


class NoThing(OrderError):
    pass


class NoCount(OrderError):
    pass


class NoTelling(OrderError):
    pass


class Barred(OrderError):
    pass


class Full(OrderError):
    pass


class Nothing(OrderError):
    pass


class NoNames(OrderError):
    pass


class NoRow(OrderError):
    pass


class NoSeveral(OrderError):
    pass


class NoText(OrderError):
    pass
