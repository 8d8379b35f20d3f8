"""Changes that are done unless a letter was changed meanwhile, and what is lost where they are done plainly."""

from itertools import combinations, permutations

from mailtide.errors import BadDeed, BadFolder, BadRow, BadSigns, BadValue, TooLarge
from mailtide.folders import Folder
from mailtide.kinds import is_integer, is_mark, is_numbers, is_sign, is_signs

MOST_CLIENTS = 4


def unless(folder, numbers, mark, deed):
    """Do a deed to letters that were not changed since a mark: (folder, the refused numbers, what was changed)."""
    if not isinstance(folder, Folder):
        raise BadFolder(folder)
    if not is_numbers(numbers):
        raise BadValue("numbers")
    if not is_mark(mark):
        raise BadValue("mark")
    if not _is_deed(deed):
        raise BadDeed(-1)
    marks = {letter[0]: letter[3] for letter in folder.letters()}
    refused, done = [], []
    for number in sorted(set(numbers)):
        if number not in marks:
            continue
        if marks[number] > mark:
            refused.append(number)
            continue
        later = _done(folder, number, deed)
        if later.mark() > folder.mark():
            done.append((number, later.mark()))
        folder = later
    return (folder, tuple(refused), tuple(done))


def wished(signs, wish):
    """The signs behind a wish."""
    if not is_signs(signs):
        raise BadSigns(signs)
    if not _is_wish(wish):
        raise BadDeed(-1)
    return _wished(signs, wish)


def plain_end(signs, wishes, row):
    """The signs behind a row of clients each of which stores what it wishes, whatever was changed meanwhile."""
    _check(signs, wishes)
    if not isinstance(row, tuple):
        raise BadRow(-1)
    for at, client in enumerate(row):
        if not _is_client(client, len(wishes)) or row[:at].count(client) == 2:
            raise BadRow(at)
    if len(row) < 2 * len(wishes):
        raise BadRow(-1)
    return _plain_end(signs, wishes, row)


def guarded_end(signs, wishes, row):
    """What comes of a row of guarded clients: (the signs, the order of the stores, those that are not through)."""
    _check(signs, wishes)
    if not isinstance(row, tuple):
        raise BadRow(-1)
    for at, client in enumerate(row):
        if not _is_client(client, len(wishes)):
            raise BadRow(at)
    # The clients that have read, and whose store would not be refused yet, or would be.
    fresh = {}
    order = []
    for client in row:
        if client in order:
            continue
        if client not in fresh:
            fresh[client] = True
            continue
        if fresh.pop(client):
            order.append(client)
            later = _wished(signs, wishes[client])
            if later != signs:
                fresh = {other: False for other in fresh}
            signs = later
    return (signs, tuple(order), tuple([client for client in range(len(wishes)) if client not in order]))


def serial(signs, wishes, order):
    """The signs if the wishes are done one after another, in this order."""
    _check(signs, wishes)
    if not isinstance(order, tuple):
        raise BadRow(-1)
    for at, client in enumerate(order):
        if not _is_client(client, len(wishes)) or client in order[:at]:
            raise BadRow(-1)
    return _serial(signs, wishes, order)


def lost(signs, wishes):
    """The least row of plain clients whose end is that of no order of the wishes, or None."""
    _check(signs, wishes)
    return _lost(signs, wishes)


def harmful(one, other):
    """The least (signs, row) for which two wishes that are done plainly lose something, or None."""
    if not _is_wish(one):
        raise BadDeed(0)
    if not _is_wish(other):
        raise BadDeed(1)
    names = sorted(set(one[1:] + other[1:]))
    for many in range(len(names) + 1):
        for signs in combinations(names, many):
            row = _lost(signs, (one, other))
            if row is not None:
                return (signs, row)
    return None


def most_tries(signs, wishes):
    """How many tries all guarded clients together make at most."""
    _check(signs, wishes)
    return len(_worst_row(signs, wishes)) // 2


def worst_row(signs, wishes):
    """A row in which all guarded clients together make the most tries."""
    _check(signs, wishes)
    return _worst_row(signs, wishes)


def _plain_end(signs, wishes, row):
    """The signs behind a row in which each client stands twice."""
    stores = {}
    for client in row:
        if client in stores:
            signs = stores[client]
        else:
            stores[client] = _wished(signs, wishes[client])
    return signs


def _serial(signs, wishes, order):
    """The signs if the wishes are done one after another, in this order."""
    for client in order:
        signs = _wished(signs, wishes[client])
    return signs


def _lost(signs, wishes):
    """The least row of plain clients whose end is that of no order of the wishes, or None."""
    many = len(wishes)
    fair = {_serial(signs, wishes, order): True for order in permutations(range(many))}
    rows = [()]
    for _ in range(2 * many):
        rows = [row + (client,) for row in rows for client in range(many) if row.count(client) < 2]
    for row in rows:
        if _plain_end(signs, wishes, row) not in fair:
            return row
    return None


def _worst_row(signs, wishes):
    """A row of whole tries with as many of them as can be."""
    return max([_row_of_tries(signs, wishes, order) for order in permutations(range(len(wishes)))], key=len)


def _row_of_tries(signs, wishes, order):
    """The longest row of whole tries in which the stores are done in this order."""
    row = ()
    for at, client in enumerate(order):
        later = _wished(signs, wishes[client])
        # A store that changes something makes one try in vain for each of those that are not through.
        others = order[at + 1:] if later != signs else ()
        row = row + (client,) + others + (client,) + others
        signs = later
    return row


def _done(folder, number, deed):
    """The folder behind a deed that is done to one letter."""
    if deed[0] == "add":
        return folder.added((number,), deed[1])
    if deed[0] == "take":
        return folder.taken((number,), deed[1])
    return folder.set_to((number,), deed[1])


def _wished(signs, wish):
    """The signs behind a wish."""
    word, sign = wish[0], wish[1]
    is_there = sign in signs
    without = tuple([each for each in signs if each != sign])
    if word == "take" or word == "flip" and is_there:
        return without
    if word == "turn":
        return _with_sign(without, wish[2]) if is_there else signs
    if word == "shy" and wish[2] in signs:
        return signs
    return _with_sign(signs, sign)


def _with_sign(signs, sign):
    """The signs with this one."""
    return signs if sign in signs else tuple(sorted(signs + (sign,)))


def _check(signs, wishes):
    """Raise the error of the first of these that is wrong."""
    if not is_signs(signs):
        raise BadSigns(signs)
    if not isinstance(wishes, (list, tuple)):
        raise BadDeed(-1)
    for at, wish in enumerate(wishes):
        if not _is_wish(wish):
            raise BadDeed(at)
    if len(wishes) > MOST_CLIENTS:
        raise TooLarge(MOST_CLIENTS)


def _is_deed(value):
    """Whether the value is a deed for some letters, without their numbers."""
    if not isinstance(value, tuple) or len(value) != 2 or not isinstance(value[0], str):
        return False
    if value[0] == "set":
        return is_signs(value[1])
    return value[0] in ("add", "take") and is_sign(value[1])


def _is_wish(value):
    """Whether the value is a wish."""
    if not isinstance(value, tuple) or len(value) not in (2, 3) or not isinstance(value[0], str):
        return False
    if not all([is_sign(sign) for sign in value[1:]]):
        return False
    if len(value) == 2:
        return value[0] in ("add", "take", "flip")
    return value[0] in ("turn", "shy") and value[1] != value[2]


def _is_client(value, many):
    """Whether the value is the index of one of so many clients."""
    return is_integer(value) and 0 <= value < many
