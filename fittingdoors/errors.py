"""The errors of the package. Their messages name no value, for a value of any kind may be kept."""


class FitError(ValueError):
    """The base of all errors of the package."""


class BadParting(FitError):
    """No parting: the place of the first wrong thing, or None."""

    def __init__(self, place):
        super().__init__("no parting")
        self.place = place


class BadLot(FitError):
    """No lot: a word for what is wrong."""

    def __init__(self, word):
        super().__init__("no lot")
        self.word = word


class BadPiece(FitError):
    """No piece: the word of the rule that fails, and a place or None."""

    def __init__(self, word, place):
        super().__init__("no piece")
        self.word = word
        self.place = place


class BadSetting(FitError):
    """No setting of the piece."""


class BadTies(FitError):
    """No ties: the place of the first wrong thing, or None."""

    def __init__(self, place):
        super().__init__("no ties")
        self.place = place


class BadDoor(FitError):
    """No door that can stand there."""

    def __init__(self, door):
        super().__init__("no such door")
        self.door = door


class BadForm(FitError):
    """No form: the path of the first wrong part."""

    def __init__(self, path):
        super().__init__("no form")
        self.path = path


class BadNumber(FitError):
    """No number that can stand there: the value that was passed, or a number of doors."""

    def __init__(self, value):
        super().__init__("no such number")
        self.value = value


class BadName(FitError):
    """No name that can stand there."""

    def __init__(self, name):
        super().__init__("no such name")
        self.name = name


class BadText(FitError):
    """No text that can be read: line and column of the first wrong character."""

    def __init__(self, line, column):
        super().__init__("no such text")
        self.line = line
        self.column = column


class BadLetter(FitError):
    """No letter of an alphabet: its number, or None."""

    def __init__(self, number):
        super().__init__("no letter")
        self.number = number


class BadTerm(FitError):
    """No term: the path of the first wrong thing, or None."""

    def __init__(self, path):
        super().__init__("no term")
        self.path = path


class NotSound(FitError):
    """A piece that is not sound: a setting that is barred."""

    def __init__(self, setting):
        super().__init__("not sound")
        self.setting = setting


class NothingBack(FitError):
    """Nothing can be taken back."""


class TooGreat(FitError):
    """Greater than the limit that is kept."""

    def __init__(self, most):
        super().__init__("too great")
        self.most = most
