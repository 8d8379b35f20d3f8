"""Searches: what keys find in folders, and the letters that part two keys."""

from mailtide.errors import BadFolder, BadKey, BadRow, TooLarge
from mailtide.folders import Folder
from mailtide.keys import Cases, fulfilled, is_key, plain
from mailtide.kinds import is_mark, is_number, is_signs

MOST_SIGNS_NAMED = 5
MOST_NAMED = 12
MOST_LETTERS = 2
GREATEST_MADE = 60


def sought(key, folder):
    """The ascending list of the numbers of the letters that fulfil a key."""
    _check_key(key)
    _check_folder(folder)
    return _sought(key, folder)


class Kept:
    """A result of a search that is kept, and follows the folder."""

    def __init__(self, key, folder):
        _check_key(key)
        _check_folder(folder)
        self._key = key
        self._numbers = _sought(key, folder)

    def numbers(self):
        """The ascending list of the numbers of the letters that fulfil the key."""
        return list(self._numbers)

    def follow(self, folder):
        """Take another folder as the present one: (the numbers that went from the result, those that came to it)."""
        _check_folder(folder)
        old, new = self._numbers, _sought(self._key, folder)
        self._numbers = new
        return (_without(old, new), _without(new, old))


def plain_key(key):
    """The same key with "not" only ahead of keys that have none within them, and are not "all"."""
    _check_key(key)
    return plain(key)


def parted(key, other):
    """The fewest and first letters of a folder in which two keys do not find the same, or None."""
    cases = _cases(key, other)
    letter = _first_apart(cases, True)
    if letter is not None:
        return (letter,)
    letter = _first_apart(cases, False)
    if letter is None:
        return None
    # The letter beside it is only there to be the greater one.
    number = letter[0] + 1
    return (letter, (number, (), number + 1 if letter[2] == number else number))


def folder_of(letters):
    """A folder with just these letters, or None if there is none."""
    _check_letters(letters)
    if not _can_be(letters):
        return None
    folder = Folder(1)
    for mark in range(1, max([letter[2] for letter in letters], default=0) + 1):
        folder = _with_next_change(folder, letters, mark)
    kept = [letter[0] for letter in letters]
    return folder.removed([number for number in range(1, folder.next_number()) if number not in kept])


def is_opposite(key, other):
    """Whether each letter of each folder fulfils just one of two keys."""
    cases = _cases(key, other)
    rows = cases.rows(True) + cases.rows(False)
    return all([one ^ two == cases.full() for _, _, one, two in rows])


def is_within(key, other):
    """Whether all that the first key finds is always found by the second one."""
    cases = _cases(key, other)
    rows = cases.rows(True) + cases.rows(False)
    return all([one & two == one for _, _, one, two in rows])


def _sought(key, folder):
    """The ascending list of the numbers of the letters that fulfil a key."""
    letters = folder.letters()
    return [letter[0] for letter, value in zip(letters, fulfilled(key, letters)) if value]


def _without(numbers, others):
    """The tuple of those numbers that are none of the others."""
    known = {number: True for number in others}
    return tuple([number for number in numbers if number not in known])


def _first_apart(cases, is_greatest):
    """The letter of the fewest signs, of these the first one, that just one of two keys finds, or None."""
    sets = cases.sets()
    found = []
    for number, mark, one, two in cases.rows(is_greatest):
        if one != two:
            signs = [signs for at, signs in enumerate(sets) if (one ^ two) >> at & 1][0]
            found.append((len(signs), number, signs, mark))
    return min(found)[1:] if found else None


def _cases(key, other):
    """The cases of two keys; raise an error if one of them is none, or they name too much."""
    _check_key(key)
    _check_key(other)
    cases = Cases(key, other)
    if cases.count_signs() > MOST_SIGNS_NAMED:
        raise TooLarge(MOST_SIGNS_NAMED)
    if cases.count_numbers() > MOST_NAMED or cases.count_marks() > MOST_NAMED:
        raise TooLarge(MOST_NAMED)
    return cases


def _can_be(letters):
    """Whether there is a folder with just these letters, at most two."""
    if not all([mark >= number for number, _, mark in letters]):
        return False
    if len(letters) < 2:
        return True
    (number, _, mark), (last, _, end) = letters
    # A change of the lesser letter ahead of the coming of the greater one puts this off by one mark.
    return mark != end and end >= last + (1 if number < mark <= last else 0)


def _with_next_change(folder, letters, mark):
    """The folder behind the change with this mark, by which these letters can come to be as they are."""
    upcoming = folder.next_number()
    for number, signs, last in letters:
        if last == mark and number < upcoming:
            return folder.set_to((number,), signs)
    if upcoming <= letters[-1][0]:
        coming = [letter for letter in letters if letter[0] == upcoming]
        if coming and coming[0][2] == mark:
            return folder.appended(0, coming[0][1])
        return folder.appended(0, _passing(coming[0][1], None) if coming else ())
    number, signs, _ = [letter for letter in letters if letter[2] > mark][0]
    now = [letter[2] for letter in folder.letters() if letter[0] == number][0]
    return folder.set_to((number,), _passing(signs, now))


def _passing(signs, now):
    """Signs for a letter that is to have others at last, and has others now."""
    return [others for others in ((), ("a",), ("b",)) if others not in (signs, now)][0]


def _check_key(key):
    """Raise BadKey if this is no key."""
    if not is_key(key):
        raise BadKey(key)


def _check_folder(folder):
    """Raise BadFolder if this is no folder."""
    if not isinstance(folder, Folder):
        raise BadFolder(folder)


def _check_letters(letters):
    """Raise an error if these are no ascending letters, too many, or of too great a number or mark."""
    if not isinstance(letters, tuple):
        raise BadRow(-1)
    ahead = 0
    for at, letter in enumerate(letters):
        if at == MOST_LETTERS or not _is_letter(letter) or letter[0] <= ahead:
            raise BadRow(at)
        ahead = letter[0]
    if max([max(number, mark) for number, _, mark in letters], default=0) > GREATEST_MADE:
        raise TooLarge(GREATEST_MADE)


def _is_letter(value):
    """Whether the value is a tuple of a number, signs and a mark."""
    if not isinstance(value, tuple) or len(value) != 3:
        return False
    return is_number(value[0]) and is_signs(value[1]) and is_mark(value[2])
