"""Copies of a folder that were changed without a line, and the steps that bring them in step again."""

from itertools import permutations

from mailtide.errors import BadCopy, BadFolder, BadNumber, BadRow, BadSigns, BadValue, TooLarge
from mailtide.folders import Folder
from mailtide.histories import played
from mailtide.kinds import is_ascending, is_body, is_integer, is_mark, is_number, is_signs

MOST_COPIES = 4
MOST_IN_ORDER = 12
MOST_FOR_ALL_ENDS = 6


class Copy:
    """A client's copy of a folder, a value: deeds without a line return new copies."""

    def __init__(self, age, mark, letters, made=()):
        if not is_number(age):
            raise BadCopy(age)
        if not is_mark(mark):
            raise BadCopy(mark)
        if not _are_letters(letters):
            raise BadCopy(letters)
        if not _are_made(made):
            raise BadCopy(made)
        self._age = age
        self._mark = mark
        self._letters = tuple(letters)
        self._made = tuple(made)

    def __eq__(self, other):
        return (
            isinstance(other, Copy)
            and self._age == other._age
            and self._mark == other._mark
            and self._letters == other._letters
            and self._made == other._made
        )

    def age(self):
        """The age of the folder."""
        return self._age

    def mark(self):
        """The mark of the folder when the copy was in step with it."""
        return self._mark

    def letters(self):
        """The list of (number, body, base, wanted), ascending by number; wanted is None for a letter that is to go."""
        return list(self._letters)

    def made(self):
        """The list of (body, signs) of the letters that are to come."""
        return list(self._made)

    def wanting(self, number, signs):
        """The copy in which this letter is to have these signs."""
        self._check_number(number)
        if not is_signs(signs):
            raise BadSigns(signs)
        return self._with_wanted(number, signs)

    def dropping(self, number):
        """The copy in which this letter is to go."""
        self._check_number(number)
        return self._with_wanted(number, None)

    def making(self, body, signs):
        """The copy with one more letter that is to come."""
        if not is_body(body):
            raise BadValue("body")
        if not is_signs(signs):
            raise BadSigns(signs)
        return Copy(self._age, self._mark, self._letters, self._made + ((body, signs),))

    def _check_number(self, number):
        """Raise BadNumber if no letter of the copy has this number."""
        if not is_number(number) or number not in [letter[0] for letter in self._letters]:
            raise BadNumber(number)

    def _with_wanted(self, number, wanted):
        """The copy in which this is wanted of a letter."""
        rows = [row[:3] + (wanted,) if row[0] == number else row for row in self._letters]
        return Copy(self._age, self._mark, rows, self._made)


def copy_of(folder):
    """The copy that is in step with a folder."""
    _check_folder(folder)
    rows = [(number, body, signs, signs) for number, body, signs, _ in folder.letters()]
    return Copy(folder.age(), folder.mark(), rows)


def stepped(copy, folder):
    """Have a copy step: (the copy in step, the folder, what was sent, the numbers of what was lost)."""
    _check_copy(copy)
    _check_folder(folder)
    sent = _sent(copy, folder)
    there = {letter[0]: True for letter in folder.letters()}
    is_same = copy.age() == folder.age()
    lost = []
    for number, _, base, wanted in copy.letters():
        if wanted != base and not (is_same and number in there):
            lost.append(number)
    folder = played(folder, sent)
    return (copy_of(folder), folder, tuple(sent), tuple(lost))


def run(copies, folder, row):
    """Have copies step by turns: (the copies, the folder, how many deeds each step sent)."""
    _check_copies(copies, MOST_COPIES)
    _check_folder(folder)
    if not isinstance(row, tuple):
        raise BadRow(-1)
    for at, index in enumerate(row):
        if not is_integer(index) or not 0 <= index < len(copies):
            raise BadRow(at)
    rows = list(copies)
    sends = []
    for index in row:
        rows[index], folder, sent, _ = stepped(rows[index], folder)
        sends.append(len(sent))
    return (tuple(rows), folder, tuple(sends))


def least_row(copies, folder):
    """The shortest row behind which all copies are in step; of several the least one."""
    _check_copies(copies, MOST_COPIES)
    _check_folder(folder)
    rows = []
    # Only the first step of a copy can send something. So a shortest row has first steps up to the last one that
    # sends something, and behind it all that are not in step by then, each once.
    pending = [((), folder, [])]
    while pending:
        first, now, in_step = pending.pop()
        others = [at for at in range(len(copies)) if at not in first]
        idle = [at for at in others if copies[at] == copy_of(now)]
        if not any([_sent(copies[at], now) for at in others if at not in idle]):
            rows.append(first + tuple([at for at in range(len(copies)) if at not in in_step + idle]))
        for at in others:
            later, sent = stepped(copies[at], now)[1:3]
            pending.append((first + (at,), later, [at] if sent else []))
    return min(rows, key=lambda row: (len(row), row))


def end_of(copies, folder, order):
    """The tuple of (number, signs) of the folder's letters when each copy has stepped once, in this order."""
    _check_alike(copies, folder)
    if not isinstance(order, tuple) or not all([is_integer(at) for at in order]):
        raise BadRow(-1)
    if sorted(order) != list(range(len(copies))):
        raise BadRow(-1)
    for at in order:
        folder = stepped(copies[at], folder)[1]
    return tuple([(number, signs) for number, _, signs, _ in folder.letters()])


def order_for(copies, folder, wanted):
    """The least order in which the copies lead to this end, or None."""
    _check_alike(copies, folder)
    contest = Contest(copies, folder)
    if not contest.is_like_an_end(wanted):
        return None
    pairs = contest.pairs_for(wanted)
    order = ()
    if not _can_go_on(order, len(copies), pairs):
        return None
    while len(order) < len(copies):
        longer = [order + (at,) for at in range(len(copies)) if at not in order]
        order = [row for row in longer if _can_go_on(row, len(copies), pairs)][0]
    return order


def ends(copies, folder):
    """The sorted list of all ends that the orders of the copies lead to, each once."""
    _check_alike(copies, folder)
    if len(copies) > MOST_FOR_ALL_ENDS:
        raise TooLarge(MOST_FOR_ALL_ENDS)
    contest = Contest(copies, folder)
    pairs = contest.pairs()
    found = {}
    for order in permutations(range(len(copies))):
        given = tuple([_is_first_last(pair, order) for pair in pairs])
        if given not in found:
            found[given] = contest.end({pair: given[at] for at, pair in enumerate(pairs)})
    return sorted(found.values())


class Contest:
    """What copies that step once each make of those letters of a folder that none of them wants to go.

    For each sign of a letter that copies change there is a pair: the copies that give it, and those that take it, as
    the bits of two integers. The last one of them in the order decides.
    """

    def __init__(self, copies, folder):
        going = {}
        self._pairs = {}
        for at, copy in enumerate(copies):
            for number, _, base, wanted in copy.letters():
                if wanted is None:
                    going[number] = True
                    continue
                for sign in wanted + base:
                    givers, takers = self._pairs.get((number, sign), (0, 0))
                    if sign not in base:
                        self._pairs[(number, sign)] = (givers | 1 << at, takers)
                    elif sign not in wanted:
                        self._pairs[(number, sign)] = (givers, takers | 1 << at)
        self._letters = [(letter[0], letter[2]) for letter in folder.letters() if letter[0] not in going]

    def pairs(self):
        """The list of all pairs, each once."""
        return list({self._pairs[key]: True for key in self._changed()})

    def pairs_for(self, wanted):
        """The list of the pairs by which an end comes: those that make a sign as it is there, and those that do not."""
        signs = {row[0]: row[1] for row in wanted}
        pairs = {}
        for number, sign in self._changed():
            givers, takers = self._pairs[(number, sign)]
            pairs[(givers, takers) if sign in signs[number] else (takers, givers)] = True
        return list(pairs)

    def is_like_an_end(self, value):
        """Whether the value is an end, as far as what no copy changes tells."""
        if not isinstance(value, tuple) or len(value) != len(self._letters):
            return False
        for row, (number, signs) in zip(value, self._letters):
            if not isinstance(row, tuple) or len(row) != 2 or not is_integer(row[0]) or not is_signs(row[1]):
                return False
            if row[0] != number or self._unchanged(number, row[1]) != self._unchanged(number, signs):
                return False
        return True

    def end(self, given):
        """The end by which of each pair those that give the sign come last, or not."""
        rows = {number: self._unchanged(number, signs) for number, signs in self._letters}
        for number, sign in self._changed():
            if given[self._pairs[(number, sign)]]:
                rows[number].append(sign)
        return tuple([(number, tuple(sorted(rows[number]))) for number in rows])

    def _changed(self):
        """The list of (number, sign) that copies change of those letters."""
        there = {number: True for number, _ in self._letters}
        return [key for key in self._pairs if key[0] in there]

    def _unchanged(self, number, signs):
        """Those of the signs of a letter that no copy changes."""
        return [sign for sign in signs if (number, sign) not in self._pairs]


def _is_first_last(pair, order):
    """Whether the last one of the order that is in a pair is on its first side."""
    last = [at for at in order if (pair[0] | pair[1]) >> at & 1][-1]
    return bool(pair[0] >> last & 1)


def _can_go_on(row, many, pairs):
    """Whether an order can begin so and end with the last one of each pair on its first side.

    It is known that it can begin with the row but its last one. So where none of a pair is left, the last one of it
    that stands in the row is right.
    """
    rest = sum([1 << at for at in range(many) if at not in row])
    waiting = [pair for pair in pairs if pair[1] & rest]
    # From behind: those that make nothing otherwise, or only what a later one makes good, may stand last.
    while waiting:
        blocked = 0
        for _, bad in waiting:
            blocked |= bad
        last = rest - (rest & blocked)
        if not last:
            return False
        rest -= last
        waiting = [pair for pair in waiting if not pair[0] & last]
    return True


def _check_copy(copy):
    """Raise BadCopy if this is no copy."""
    if not isinstance(copy, Copy):
        raise BadCopy(copy)


def _check_copies(copies, most):
    """Raise BadCopy if these are no copies, or too many."""
    if not isinstance(copies, (list, tuple)) or len(copies) > most:
        raise BadCopy(copies)
    for copy in copies:
        _check_copy(copy)


def _check_folder(folder):
    """Raise BadFolder if this is no folder."""
    if not isinstance(folder, Folder):
        raise BadFolder(folder)


def _check_alike(copies, folder):
    """Raise an error if these are not copies of this folder, with its age and nothing made."""
    _check_copies(copies, MOST_IN_ORDER)
    _check_folder(folder)
    for copy in copies:
        if copy.age() != folder.age() or copy.made():
            raise BadCopy(copy)


def _sent(copy, folder):
    """The list of the deeds that a copy sends when it steps."""
    made = [("append", body, signs) for body, signs in copy.made()]
    if copy.age() != folder.age():
        return made
    there = {letter[0]: letter[2] for letter in folder.letters()}
    changes, removes = [], []
    for number, _, base, wanted in copy.letters():
        if number not in there:
            continue
        if wanted is None:
            removes.append(("remove", (number,)))
            continue
        for sign in wanted:
            if sign not in base and sign not in there[number]:
                changes.append(("add", (number,), sign))
        for sign in base:
            if sign not in wanted and sign in there[number]:
                changes.append(("take", (number,), sign))
    return changes + removes + made


def _are_letters(value):
    """Whether the value is an ascending list or tuple of a copy's letters."""
    if not isinstance(value, (list, tuple)):
        return False
    for row in value:
        if not isinstance(row, tuple) or len(row) != 4 or not is_number(row[0]) or not is_body(row[1]):
            return False
        if not is_signs(row[2]) or row[3] is not None and not is_signs(row[3]):
            return False
    return is_ascending([row[0] for row in value])


def _are_made(value):
    """Whether the value is a list or tuple of letters that are to come."""
    if not isinstance(value, (list, tuple)):
        return False
    for row in value:
        if not isinstance(row, tuple) or len(row) != 2 or not is_body(row[0]) or not is_signs(row[1]):
            return False
    return True
