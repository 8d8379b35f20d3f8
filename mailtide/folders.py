"""Folders of letters with their marks, and the deeds that are done to them."""

from mailtide.errors import BadFolder, BadNumber, BadSigns, BadValue
from mailtide.kinds import MOST_SIGNS, is_body, is_mark, is_number, is_numbers, is_sign, is_signs


class Folder:
    """A folder, a value: deeds return new folders, and the folder itself stays as it is."""

    def __init__(self, age):
        if not is_number(age):
            raise BadNumber(age)
        self._age = age
        self._letters = ()
        self._next_number = 1
        self._mark = 0
        self._gone = ()
        self._cut = 0

    def __eq__(self, other):
        return (
            isinstance(other, Folder)
            and self._age == other._age
            and self._letters == other._letters
            and self._next_number == other._next_number
            and self._mark == other._mark
            and self._gone == other._gone
            and self._cut == other._cut
        )

    def age(self):
        """The age of the folder."""
        return self._age

    def letters(self):
        """The list of its letters (number, body, signs, mark), ascending by number."""
        return list(self._letters)

    def next_number(self):
        """The number that the next letter gets."""
        return self._next_number

    def mark(self):
        """The mark of the last change."""
        return self._mark

    def gone(self):
        """The ascending list of (mark, number) of the letters that went, as far as it is kept."""
        return list(self._gone)

    def cut(self):
        """What went with a mark up to this one is not kept any more."""
        return self._cut

    def appended(self, body, signs):
        """The folder with one more letter, with the next number."""
        if not is_body(body):
            raise BadValue("body")
        if not is_signs(signs):
            raise BadSigns(signs)
        folder = self._copied()
        folder._mark += 1
        folder._letters = (*self._letters, (self._next_number, body, signs, folder._mark))
        folder._next_number += 1
        return folder

    def added(self, numbers, sign):
        """The folder with this sign at the letters with these numbers."""
        _check_numbers(numbers)
        if not is_sign(sign):
            raise BadSigns(sign)
        return self._signed(numbers, lambda signs: _with_sign(signs, sign))

    def taken(self, numbers, sign):
        """The folder without this sign at the letters with these numbers."""
        _check_numbers(numbers)
        if not is_sign(sign):
            raise BadSigns(sign)
        return self._signed(numbers, lambda signs: _without_sign(signs, sign))

    def set_to(self, numbers, signs):
        """The folder with just these signs at the letters with these numbers."""
        _check_numbers(numbers)
        if not is_signs(signs):
            raise BadSigns(signs)
        return self._signed(numbers, lambda old: signs)

    def removed(self, numbers):
        """The folder without the letters with these numbers."""
        _check_numbers(numbers)
        chosen = set(numbers)
        folder = self._copied()
        letters = []
        gone = []
        for letter in self._letters:
            if letter[0] in chosen:
                folder._mark += 1
                gone.append((folder._mark, letter[0]))
            else:
                letters.append(letter)
        folder._letters = tuple(letters)
        folder._gone = (*self._gone, *gone)
        return folder

    def trimmed(self, mark):
        """The folder that does not keep any more what went with a mark up to this one."""
        if not is_mark(mark) or mark > self._mark:
            raise BadValue("mark")
        folder = self._copied()
        cut = max(self._cut, mark)
        folder._cut = cut
        folder._gone = tuple([row for row in self._gone if row[0] > cut])
        return folder

    def _copied(self):
        """Another folder that is equal; a deed changes it ahead of handing it out."""
        folder = Folder(self._age)
        folder._letters = self._letters
        folder._next_number = self._next_number
        folder._mark = self._mark
        folder._gone = self._gone
        folder._cut = self._cut
        return folder

    def _signed(self, numbers, renewed):
        """The folder whose letters with these numbers have the signs that renewed makes of theirs."""
        chosen = set(numbers)
        folder = self._copied()
        letters = []
        for number, body, signs, mark in self._letters:
            wanted = renewed(signs) if number in chosen else signs
            if wanted != signs:
                folder._mark += 1
                mark = folder._mark
            letters.append((number, body, wanted, mark))
        folder._letters = tuple(letters)
        return folder


def copied(one, other, numbers):
    """Copy letters from one folder to the other, or within one: (one, other, pairs of numbers)."""
    _check_carried(one, other, numbers)
    return _carried(one, other, numbers, False)


def moved(one, other, numbers):
    """Move letters from one folder to the other, or within one: (one, other, pairs of numbers)."""
    _check_carried(one, other, numbers)
    return _carried(one, other, numbers, True)


def _carried(one, other, numbers, leaves):
    """Append letters of one folder to the other, or to itself; each that leaves is removed behind this."""
    chosen = set(numbers)
    pairs = []
    for number, body, signs, _ in one.letters():
        if number not in chosen:
            continue
        if other is None:
            pairs.append((number, one.next_number()))
            one = one.appended(body, signs)
        else:
            pairs.append((number, other.next_number()))
            other = other.appended(body, signs)
        if leaves:
            one = one.removed((number,))
    return (one, other, pairs)


def _check_carried(one, other, numbers):
    """Raise the error of the first argument of copied or moved that is wrong."""
    if not isinstance(one, Folder):
        raise BadFolder(one)
    if other is not None and not isinstance(other, Folder):
        raise BadFolder(other)
    _check_numbers(numbers)


def _check_numbers(numbers):
    """Raise BadValue if these are no numbers."""
    if not is_numbers(numbers):
        raise BadValue("numbers")


def _with_sign(signs, sign):
    """The signs with this one; as they were where there is no room for it."""
    if sign in signs or len(signs) == MOST_SIGNS:
        return signs
    return tuple(sorted([*signs, sign]))


def _without_sign(signs, sign):
    """The signs without this one."""
    return tuple([old for old in signs if old != sign])
