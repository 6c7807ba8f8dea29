"""The refusals: one class for each, all of them under SideError and none under another."""


class SideError(ValueError):
    pass


class NoText(SideError):
    def __init__(self, row):
        SideError.__init__(self, row)
        self.row = row


class NoProgram(SideError):
    def __init__(self, word, row):
        SideError.__init__(self, word, row)
        self.word = word
        self.row = row


class NoTerm(SideError):
    def __init__(self):
        SideError.__init__(self)


class NoValue(SideError):
    def __init__(self):
        SideError.__init__(self)


class NotFlat(SideError):
    def __init__(self, row):
        SideError.__init__(self, row)
        self.row = row


class NoKind(SideError):
    def __init__(self):
        SideError.__init__(self)


class NoEdit(SideError):
    def __init__(self):
        SideError.__init__(self)


class NoRow(SideError):
    def __init__(self):
        SideError.__init__(self)
