"""The refusals."""


# Any refusal, so that an asker may take them all by one name.
class HoistError(ValueError):
    pass


class NoText(HoistError):
    def __init__(self, line):
        self.line = line


class NoProgram(HoistError):
    def __init__(self, word, at):
        self.word = word
        self.at = at


class NoPaper(HoistError):
    def __init__(self, word, at, way):
        self.word = word
        self.at = at
        self.way = way
