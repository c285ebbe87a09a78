"""What keeps a call from being done, one error class for each reason."""


class NoTable(Exception):
    pass


class WrongArgument(Exception):
    pass


class NotInDeck(Exception):
    pass


class InvalidText(Exception):

    def __init__(self, code, offset):
        self.code = code
        self.offset = offset
