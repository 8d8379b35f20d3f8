"""Commands in flight: what places find when others remove letters meanwhile."""

from itertools import combinations

from mailtide.errors import BadNumber, BadRow, BadValue
from mailtide.kinds import is_ascending, is_integer, is_number, is_numbers

MOST_LETTERS = 10
MOST_COMMANDS = 8
MOST_OTHERS = 2


def played(n, row, loose, k, fate):
    """What the commands of a row find by a fate; None for an ask."""
    _check(n, row, loose, k)
    if not _is_fate(fate, row, loose, k):
        raise BadValue("fate")
    return _found(n, row, fate)


def finds(n, row, loose, k):
    """For each command the ascending list of all that it can find."""
    _check(n, row, loose, k)
    tables = [{} for _ in row]
    for fate in _fates(row, loose, k):
        for at, thing in enumerate(_found(n, row, fate)):
            if thing is not None:
                tables[at][thing] = True
    return [sorted(table) for table in tables]


def doubt(n, row, loose, k):
    """The first command that is not sure, and the least fate by which it finds another letter, or none; or None."""
    _check(n, row, loose, k)
    alone = _found(n, row, ())
    fates = _fates(row, loose, k)
    rows = [_found(n, row, fate) for fate in fates]
    for at, thing in enumerate(alone):
        if thing == ("none",):
            return (at, ())
        if thing is not None:
            for fate, found in zip(fates, rows):
                # What is here or gone has its letter behind the word; none has nothing there.
                if found[at][1:] != thing[1:]:
                    return (at, fate)
    return None


def turned(n, wishes):
    """The row with the places that the letters have by then, if others do nothing."""
    _check_number(n)
    _check_row(wishes, n)
    return _turned(n, wishes)


def by_number(n, wishes, loose, k):
    """The ascending list of the indexes of the commands that ought to name their letter by its number."""
    _check_number(n)
    _check_row(wishes, n)
    _check_others(n, loose, k)
    row = _turned(n, wishes)
    named = {at: True for at, command in enumerate(row) if command is None}
    for fate in _fates(row, loose, k):
        for at, thing in enumerate(_found_by_letters(n, wishes, row, fate)):
            if thing is not None and thing[1:] != wishes[at][1:]:
                named[at] = True
    return sorted(named)


class Listed:
    """The letters in a session's list, some of which are gone."""

    def __init__(self, n):
        self._rows = list(range(1, n + 1))
        self._gone = {}

    def go(self, letter):
        """Have a letter gone, if it is there."""
        self._gone[letter] = True

    def go_by(self, fate, moment):
        """Have those letters gone that others remove at this moment."""
        for letter, at in fate:
            if at == moment:
                self.go(letter)

    def forget(self):
        """Take all letters off the list that are gone."""
        self._rows = [letter for letter in self._rows if letter not in self._gone]

    def place_of(self, letter):
        """The place of a letter, None if it has left the list."""
        return self._rows.index(letter) + 1 if letter in self._rows else None

    def found_at(self, place):
        """What this place finds."""
        if place > len(self._rows):
            return ("none",)
        letter = self._rows[place - 1]
        return ("gone" if letter in self._gone else "here", letter)


def _found(n, row, fate):
    """What the commands of a row find by a fate."""
    known = Listed(n)
    things = []
    for moment, command in enumerate(row):
        known.go_by(fate, moment)
        if command[0] == "ask":
            known.forget()
            things.append(None)
        else:
            thing = known.found_at(command[1])
            if command[0] == "take" and thing[0] == "here":
                known.go(thing[1])
            things.append(thing)
    return things


def _found_by_letters(n, wishes, row, fate):
    """What the turned commands find by a fate, if those ahead are done to the letters that are meant."""
    known = Listed(n)
    things = []
    for moment, wish in enumerate(wishes):
        known.go_by(fate, moment)
        command = row[moment]
        things.append(None if command is None or command[0] == "ask" else known.found_at(command[1]))
        if wish[0] == "ask":
            known.forget()
        elif wish[0] == "take":
            known.go(wish[1])
    return things


def _turned(n, wishes):
    """The row of wishes with places in the stead of letters."""
    known = Listed(n)
    row = []
    for wish in wishes:
        if wish[0] == "ask":
            known.forget()
            row.append(wish)
        else:
            place = known.place_of(wish[1])
            row.append(None if place is None else (wish[0], place))
            if wish[0] == "take":
                known.go(wish[1])
    return row


def _fates(row, loose, k):
    """The ascending list of all fates."""
    singles = [(letter, moment) for letter in loose for moment in range(len(row))]
    fates = [()]
    if k >= 1:
        fates.extend([(single,) for single in singles])
    if k >= 2:
        fates.extend([(one, other) for one, other in combinations(singles, 2) if one[0] < other[0]])
    return sorted(fates)


def _check(n, row, loose, k):
    """Raise the error of the first of these that is wrong."""
    _check_number(n)
    _check_row(row, None)
    _check_others(n, loose, k)


def _check_number(n):
    """Raise BadNumber if this is no number of letters."""
    if not is_number(n) or n > MOST_LETTERS:
        raise BadNumber(n)


def _check_row(row, most):
    """Raise BadRow if this is no row of commands, or names a place above most, if there is such a bound."""
    if not isinstance(row, (list, tuple)) or len(row) > MOST_COMMANDS:
        raise BadRow(-1)
    for at, command in enumerate(row):
        if not _is_command(command, most):
            raise BadRow(at)


def _check_others(n, loose, k):
    """Raise BadValue if these are no letters that others may remove, or not how many of them."""
    if not isinstance(loose, tuple) or not is_numbers(loose) or not is_ascending(loose) or loose and loose[-1] > n:
        raise BadValue("loose")
    if not is_integer(k) or not 0 <= k <= MOST_OTHERS:
        raise BadValue("k")


def _is_command(value, most):
    """Whether the value is a command, or, with a bound for its places, a wish."""
    if not isinstance(value, tuple) or not value or not isinstance(value[0], str):
        return False
    if value[0] == "ask":
        return len(value) == 1
    if value[0] not in ("look", "take") or len(value) != 2 or not is_number(value[1]):
        return False
    return most is None or value[1] <= most


def _is_fate(value, row, loose, k):
    """Whether the value is a fate of this row."""
    if not isinstance(value, tuple) or len(value) > k:
        return False
    for pair in value:
        if not isinstance(pair, tuple) or len(pair) != 2 or not is_integer(pair[0]) or not is_integer(pair[1]):
            return False
        if pair[0] not in loose or not 0 <= pair[1] < len(row):
            return False
    return is_ascending([pair[0] for pair in value])
