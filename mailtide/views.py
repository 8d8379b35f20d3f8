"""Clients' lists, the notices that change them, and sessions, which remember what they have told."""

from mailtide.errors import BadFolder, BadNotice, BadRow, BadValue
from mailtide.folders import Folder
from mailtide.kinds import is_mark, is_number, is_signs


def applied(entries, notices):
    """The list that notices make of a list."""
    check_entries(entries)
    if not isinstance(notices, (list, tuple)):
        raise BadNotice(-1)
    rows = list(entries)
    floor = 0
    for at, notice in enumerate(notices):
        if not fits(rows, floor, notice):
            raise BadNotice(at)
        if notice[0] == "done":
            floor = notice[1]
        rows = behind(rows, notice)
    return rows


def check_entries(entries):
    """Raise BadRow if this is no list of a client."""
    if not isinstance(entries, (list, tuple)):
        raise BadRow(-1)
    ahead = 0
    for at, entry in enumerate(entries):
        if not _is_entry(entry) or entry[0] <= ahead:
            raise BadRow(at)
        ahead = entry[0]


def fits(rows, floor, notice):
    """Whether the value is a notice that fits a list; floor is the greatest mark of those done ahead of it."""
    if not is_notice(notice):
        return False
    word = notice[0]
    if word == "come":
        return not rows or notice[1] > rows[-1][0]
    if word == "letter":
        return notice[1] <= len(rows) and notice[3] > rows[notice[1] - 1][2]
    if word == "gone":
        return notice[1] <= len(rows)
    is_next = not rows or notice[2] > rows[-1][0]
    return is_next and notice[1] >= max([row[2] for row in rows] + [floor])


def behind(rows, notice):
    """The list behind a notice that fits it."""
    word = notice[0]
    if word == "come":
        return rows + [notice[1:]]
    if word == "done":
        return rows
    at = notice[1] - 1
    if word == "gone":
        return rows[:at] + rows[at + 1:]
    return rows[:at] + [(rows[at][0], notice[2], notice[3])] + rows[at + 1:]


def is_notice(value):
    """Whether the value is a notice, whatever list it is told of."""
    if not isinstance(value, tuple) or not value or not isinstance(value[0], str):
        return False
    word = value[0]
    if word in ("come", "letter"):
        return len(value) == 4 and is_number(value[1]) and is_signs(value[2]) and is_mark(value[3])
    if word == "gone":
        return len(value) == 2 and is_number(value[1])
    return word == "done" and len(value) == 3 and is_mark(value[1]) and is_number(value[2])


class Session:
    """What a server remembers for one client that has opened a folder."""

    def __init__(self, folder):
        if not isinstance(folder, Folder):
            raise BadFolder(folder)
        self._folder = folder
        self._told = opened(folder)

    def see(self, folder):
        """Take the folder as it is now."""
        if not isinstance(folder, Folder) or folder.age() != self._folder.age():
            raise BadFolder(folder)
        self._folder = folder

    def told(self):
        """The list of (number, mark) of the letters that it has told."""
        return [(number, mark) for number, _, mark in self._told[0]]

    def tell(self, notices, is_ask):
        """Take notices as told, if all are right; otherwise return the index of the first one that is not."""
        if not isinstance(notices, (list, tuple)):
            raise BadNotice(-1)
        if not isinstance(is_ask, bool):
            raise BadValue("is_ask")
        told = self._told
        for at, notice in enumerate(notices):
            told = behind_right(told, self._folder, notice, is_ask)
            if told is None:
                return at
        self._told = told
        return None

    def answer(self):
        """The notices that an ask must at least tell."""
        return answer_to_ask(self._told, self._folder)


def opened(folder):
    """What a session that opens a folder has told: (its list, the greatest number ever, the last mark of a done)."""
    rows = entries_of(folder)
    return (rows, max([row[0] for row in rows], default=0), 0)


def behind_right(told, folder, notice, is_ask):
    """What a session has told behind a notice, or None if this is not right now."""
    rows, top, floor = told
    if not fits(rows, floor, notice) or not _is_so(rows, top, folder, notice, is_ask):
        return None
    if notice[0] == "come":
        top = notice[1]
    elif notice[0] == "done":
        floor = notice[1]
    return (behind(rows, notice), top, floor)


def answer_to_ask(told, folder):
    """The notices that an ask must at least tell."""
    rows, top, floor = told
    letters = {entry[0]: True for entry in entries_of(folder)}
    # Those ahead of it that were gone have left the list by then.
    gone = [at for at, row in enumerate(rows) if row[0] not in letters]
    notices = [("gone", at + 1 - many) for many, at in enumerate(gone)]
    kept = [row for row in rows if row[0] in letters]
    notices.extend(news((kept, top, floor), folder))
    return notices + [("done", folder.mark(), folder.next_number())]


def news(told, folder):
    """The notices of the letters that were changed, by their places, then of those that came."""
    rows, top, _ = told
    entries = entries_of(folder)
    letters = {entry[0]: entry for entry in entries}
    notices = []
    for at, (number, _, mark) in enumerate(rows):
        if number in letters and letters[number][2] > mark:
            notices.append(("letter", at + 1) + letters[number][1:])
    return notices + [("come",) + entry for entry in entries if entry[0] > top]


def entries_of(folder):
    """The list of a client that has been told all letters of a folder."""
    return [(number, signs, mark) for number, _, signs, mark in folder.letters()]


def _is_so(rows, top, folder, notice, is_ask):
    """Whether a notice that fits tells what is so of a folder, and may be told now."""
    entries = entries_of(folder)
    word = notice[0]
    if word == "come":
        new = [entry for entry in entries if entry[0] > top]
        return new[:1] == [notice[1:]]
    if word == "letter":
        return (rows[notice[1] - 1][0], notice[2], notice[3]) in entries
    if word == "gone":
        return is_ask and rows[notice[1] - 1][0] not in [entry[0] for entry in entries]
    is_all = [(row[0], row[2]) for row in rows] == [(entry[0], entry[2]) for entry in entries]
    return is_ask and is_all and notice[1:] == (folder.mark(), folder.next_number())


def _is_entry(value):
    """Whether the value is an entry of a client's list."""
    if not isinstance(value, tuple) or len(value) != 3:
        return False
    return is_number(value[0]) and is_signs(value[1]) and is_mark(value[2])
