"""The refusals of the program."""


class OneError(ValueError):

    def __init__(self, at):
        ValueError.__init__(self, f"refused at {at}")
        self.at = at


class NoProgram(OneError):
    pass


class NoTree(OneError):
    pass
