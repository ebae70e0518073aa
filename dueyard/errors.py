"""The refusals: each one a class of its own, straight under YardError."""


class YardError(ValueError):
    pass


class NoName(YardError):
    pass


class NoNumber(YardError):
    pass


class NoCalendar(YardError):
    pass


class NoSpans(YardError):
    pass


class TooMany(YardError):
    pass


class NoPlan(YardError):
    pass


class NoLine(YardError):
    pass


# The four below are alike, but a common base would put them no longer straight under YardError.


class Twice(YardError):
    def __init__(self, name):
        YardError.__init__(self, f"two jobs have the name {name}")
        self.name = name


class Taken(YardError):
    def __init__(self, name):
        YardError.__init__(self, f"the yard has an entry of the name {name}")
        self.name = name


class NoJob(YardError):
    def __init__(self, name):
        YardError.__init__(self, f"there is no job of the name {name}")
        self.name = name


class TooLong(YardError):
    def __init__(self, name):
        YardError.__init__(self, f"the window of {name} is too short for its work")
        self.name = name
