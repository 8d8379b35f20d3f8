"""What a client can tell of a folder from two sights of it."""

from mailtide.errors import BadValue, TooLarge
from mailtide.kinds import MOST_SIGNS, is_integer, is_mark, is_number

MOST_MARKS = 60


def between(one, other):
    """How many letters came and went, and how often signs were changed, from one sight to another, or None."""
    _check_sights(one, other)
    return _between(one, other)


def ways(one, other, s):
    """How many rows of changes lead from one sight to another, if there are s signs."""
    _check_sights(one, other)
    if not is_integer(s) or not 0 <= s <= MOST_SIGNS:
        raise BadValue("s")
    numbers = _between(one, other)
    if numbers is None:
        return 0
    if other[3] - one[3] > MOST_MARKS:
        raise TooLarge(MOST_MARKS)
    came, went, changed = numbers
    sets = 1 << s
    # By how many letters came and went, the number of rows of changes by now.
    rows = {(0, 0): 1}
    for _ in range(came + went + changed):
        longer = {}
        for (comes, goes), many in rows.items():
            there = one[1] + comes - goes
            _increase(longer, (comes + 1, goes), many * sets)
            _increase(longer, (comes, goes + 1), many * there)
            _increase(longer, (comes, goes), many * there * (sets - 1))
        rows = {key: longer[key] for key in longer if key[0] <= came and key[1] <= went}
    return rows.get((came, went), 0)


def most_at_once(one, other):
    """The greatest number of letters that can have been there at some time, or None."""
    _check_sights(one, other)
    numbers = _between(one, other)
    if numbers is None:
        return None
    # All letters can have come ahead of the first one that went.
    return one[1] + numbers[0]


def fewest_at_once(one, other):
    """The least number of letters that can have been there at some time, or None."""
    _check_sights(one, other)
    numbers = _between(one, other)
    if numbers is None:
        return None
    # As many as were there at first can have gone ahead of the first one that came.
    return max(one[1] - numbers[1], 0)


def surely(one, other):
    """Of which letters it is sure that they are there still, were never changed, and are not known, or None."""
    _check_sights(one, other)
    numbers = _between(one, other)
    if numbers is None:
        return None
    came, went, changed = numbers
    first, last = one[1], other[1]
    fewest_still = first - min(first, went)
    most_still = first - max(0, went - came)
    # A letter that came can have had all changes.
    least_changed = 1 if changed and not came else 0
    return (
        _word(fewest_still, most_still, first),
        _word(first - min(first, changed), first - least_changed, first),
        _word(last - most_still, last - fewest_still, last),
    )


def _between(one, other):
    """How many letters came and went, and how often signs were changed, between possible sights, or None."""
    came = other[2] - one[2]
    went = one[1] + came - other[1]
    changed = other[3] - one[3] - came - went
    if one[0] != other[0] or min(came, went, changed) < 0:
        return None
    if changed and not one[1] and not came:
        return None
    return (came, went, changed)


def _increase(table, key, many):
    """Add so many to what a table has for a key."""
    table[key] = table.get(key, 0) + many


def _word(fewest, most, of):
    """The word for what is so of at least the fewest and at most the most, of so many."""
    if fewest == of:
        return "all"
    if most == 0:
        return "none"
    return "some" if fewest > 0 and most < of else "open"


def _check_sights(one, other):
    """Raise BadValue for the first one that is no possible sight."""
    if not _is_sight(one):
        raise BadValue("one")
    if not _is_sight(other):
        raise BadValue("other")


def _is_sight(value):
    """Whether the value is a sight that is possible."""
    if not isinstance(value, tuple) or len(value) != 4:
        return False
    age, count, upcoming, mark = value
    if not is_number(age) or not is_integer(count) or not is_number(upcoming) or not is_mark(mark):
        return False
    if not 0 <= count < upcoming or mark < 2 * (upcoming - 1) - count:
        return False
    return upcoming > 1 or mark == 0
