"""The errors of Mailtide, each with the field that tells what was wrong."""


class TideError(ValueError):
    """What all errors of Mailtide are."""


class BadSet(TideError):
    """The value is no set text."""

    def __init__(self, value):
        super().__init__("no set text")
        self.value = value


class BadFolder(TideError):
    """The value is no folder, or not one that can stand here."""

    def __init__(self, value):
        super().__init__("no folder that can stand here")
        self.value = value


class BadNumber(TideError):
    """The value is no number or age, or not one that can stand here."""

    def __init__(self, value):
        super().__init__("no number that can stand here")
        self.value = value


class BadSigns(TideError):
    """The value is no sign, or no signs."""

    def __init__(self, value):
        super().__init__("no sign, or no signs")
        self.value = value


class BadDeed(TideError):
    """The deed at this index is none; -1 for what is no row of deeds."""

    def __init__(self, at):
        super().__init__("no deed")
        self.at = at


class BadNotice(TideError):
    """The notice at this index is none, or does not fit; -1 for what is no row of notices."""

    def __init__(self, at):
        super().__init__("no notice that fits")
        self.at = at


class BadRow(TideError):
    """The item at this index is wrong; -1 for what is no row."""

    def __init__(self, at):
        super().__init__("a row with a wrong item, or no row")
        self.at = at


class BadCopy(TideError):
    """The value is no copy, or no part of one."""

    def __init__(self, value):
        super().__init__("no copy, or no part of one")
        self.value = value


class BadKey(TideError):
    """The value is no key, or no question."""

    def __init__(self, value):
        super().__init__("no key, or no question")
        self.value = value


class BadText(TideError):
    """The text is wrong at this index; -1 for what is no text."""

    def __init__(self, at):
        super().__init__("a wrong text, or no text")
        self.at = at


class BadValue(TideError):
    """An argument is wrong; why tells which one."""

    def __init__(self, why):
        super().__init__("a wrong value")
        self.why = why


class TooLarge(TideError):
    """More is asked for than this limit allows."""

    def __init__(self, limit):
        super().__init__("above the limit")
        self.limit = limit
