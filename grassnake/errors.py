"""The errors by which Grassnake refuses a text, its names or a run of it."""


class SnakeError(ValueError):
    pass


class BadText(SnakeError):
    def __init__(self, at):
        SnakeError.__init__(self, f"the text can't be read: {at!r}")
        self.at = at


class BadName(SnakeError):
    def __init__(self, at):
        SnakeError.__init__(self, f"a name or word can't stand there: {at!r}")
        self.at = at


class BadRun(SnakeError):
    pass
