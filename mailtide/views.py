"""Clients' lists, the notices that change them, and sessions, which remember what they have told."""

from mailtide.errors import BadFolder, BadNotice, BadRow, BadValue
from mailtide.folders import Folder
from mailtide.kinds import is_mark, is_number, is_signs


def applied(entries, notices):
    """The list that notices make of a list."""
    check_entries(entries)
    if not isinstance(notices, (list, tuple)):
        raise BadNotice(-1)
    rows = list(entries)
    floor = 0
    for at, notice in enumerate(notices):
        if not fits(rows, floor, notice):
            raise BadNotice(at)
        if notice[0] == "done":
            floor = notice[1]
        rows = behind(rows, notice)
    return rows


def check_entries(entries):
    """Raise BadRow if this is no list of a client."""
    if not isinstance(entries, (list, tuple)):
        raise BadRow(-1)
    ahead = 0
    for at, entry in enumerate(entries):
        if not _is_entry(entry) or entry[0] <= ahead:
            raise BadRow(at)
        ahead = entry[0]


def fits(rows, floor, notice):
    """Whether the value is a notice that fits a list; floor is the greatest mark of those done ahead of it."""
    if not is_notice(notice):
        return False
    word = notice[0]
    if word == "come":
        return not rows or notice[1] > rows[-1][0]
    if word == "letter":
        return notice[1] <= len(rows) and notice[3] > rows[notice[1] - 1][2]
    if word == "gone":
        return notice[1] <= len(rows)
    is_next = not rows or notice[2] > rows[-1][0]
    return is_next and notice[1] >= max([row[2] for row in rows] + [floor])


def behind(rows, notice):
    """The list behind a notice that fits it."""
    word = notice[0]
    if word == "come":
        return rows + [notice[1:]]
    if word == "done":
        return rows
    at = notice[1] - 1
    if word == "gone":
        return rows[:at] + rows[at + 1:]
    return rows[:at] + [(rows[at][0], notice[2], notice[3])] + rows[at + 1:]


def is_notice(value):
    """Whether the value is a notice, whatever list it is told of."""
    if not isinstance(value, tuple) or not value or not isinstance(value[0], str):
        return False
    word = value[0]
    if word in ("come", "letter"):
        return len(value) == 4 and is_number(value[1]) and is_signs(value[2]) and is_mark(value[3])
    if word == "gone":
        return len(value) == 2 and is_number(value[1])
    return word == "done" and len(value) == 3 and is_mark(value[1]) and is_number(value[2])


class Session:
    """What a server remembers for one client that has opened a folder."""

    def __init__(self, folder):
        if not isinstance(folder, Folder):
            raise BadFolder(folder)
        self._folder = folder
        # The list that the client has by what it was told.
        self._rows = [_entry_of(letter) for letter in folder.letters()]
        # The greatest number, and the greatest mark of a done, that were ever told.
        self._top = max([row[0] for row in self._rows], default=0)
        self._floor = 0

    def see(self, folder):
        """Take the folder as it is now."""
        if not isinstance(folder, Folder) or folder.age() != self._folder.age():
            raise BadFolder(folder)
        self._folder = folder

    def told(self):
        """The list of (number, mark) of the letters that it has told."""
        return [(number, mark) for number, _, mark in self._rows]

    def tell(self, notices, is_ask):
        """Take notices as told, if all are right; otherwise return the index of the first one that is not."""
        if not isinstance(notices, (list, tuple)):
            raise BadNotice(-1)
        if not isinstance(is_ask, bool):
            raise BadValue("is_ask")
        rows, top, floor = self._rows, self._top, self._floor
        for at, notice in enumerate(notices):
            if not fits(rows, floor, notice) or not self._is_so(rows, top, notice, is_ask):
                return at
            if notice[0] == "come":
                top = notice[1]
            elif notice[0] == "done":
                floor = notice[1]
            rows = behind(rows, notice)
        self._rows, self._top, self._floor = rows, top, floor
        return None

    def answer(self):
        """The notices that an ask must at least tell."""
        letters = {letter[0]: _entry_of(letter) for letter in self._folder.letters()}
        notices = []
        for at, row in enumerate(self._rows):
            if row[0] not in letters:
                # Those ahead of it that were gone have left the list by then.
                notices.append(("gone", at + 1 - len(notices)))
        kept = [row for row in self._rows if row[0] in letters]
        for at, row in enumerate(kept):
            number, signs, mark = letters[row[0]]
            if mark > row[2]:
                notices.append(("letter", at + 1, signs, mark))
        for number in sorted(letters):
            if number > self._top:
                notices.append(("come",) + letters[number])
        notices.append(("done", self._folder.mark(), self._folder.next_number()))
        return notices

    def _is_so(self, rows, top, notice, is_ask):
        """Whether a notice that fits tells what is so of the folder, and may be told now."""
        letters = [_entry_of(letter) for letter in self._folder.letters()]
        word = notice[0]
        if word == "come":
            new = [letter for letter in letters if letter[0] > top]
            return new[:1] == [notice[1:]]
        if word == "letter":
            return (rows[notice[1] - 1][0], notice[2], notice[3]) in letters
        if word == "gone":
            return is_ask and rows[notice[1] - 1][0] not in [letter[0] for letter in letters]
        is_all = [(row[0], row[2]) for row in rows] == [(letter[0], letter[2]) for letter in letters]
        return is_ask and is_all and notice[1:] == (self._folder.mark(), self._folder.next_number())


def _entry_of(letter):
    """The entry that a list has for a letter."""
    number, _, signs, mark = letter
    return (number, signs, mark)


def _is_entry(value):
    """Whether the value is an entry of a client's list."""
    if not isinstance(value, tuple) or len(value) != 3:
        return False
    return is_number(value[0]) and is_signs(value[1]) and is_mark(value[2])
