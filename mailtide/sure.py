"""The sure mark: since when a client must ask, by what it was told out of turn."""

from mailtide.errors import BadNotice, BadValue, TooLarge
from mailtide.kinds import is_mark, is_number
from mailtide.views import behind, check_entries, fits

MOST_ABOVE = 300


def sure_mark(entries, mark, upcoming, notices):
    """The greatest mark since which the client can ask and be in step, whatever else was done."""
    check_entries(entries)
    if not is_mark(mark) or mark < max([entry[2] for entry in entries], default=0):
        raise BadValue("mark")
    if not is_number(upcoming) or upcoming <= max([entry[0] for entry in entries], default=0):
        raise BadValue("upcoming")
    _check_notices(entries, mark, upcoming, notices)
    facts, since = _facts(entries, mark, notices)
    at = _first_impossible(facts)
    if at < len(notices):
        raise BadNotice(at)
    return mark + Changes(facts).first_in_doubt(since) - 1


def _check_notices(entries, mark, upcoming, notices):
    """Raise the error of the first notice that does not fit or is neither come nor letter, or of too great a mark."""
    if not isinstance(notices, (list, tuple)):
        raise BadNotice(-1)
    rows = list(entries)
    for at, notice in enumerate(notices):
        if not fits(rows, 0, notice) or notice[0] not in ("come", "letter"):
            raise BadNotice(at)
        if notice[0] == "come":
            if notice[1] != upcoming:
                raise BadNotice(at)
            upcoming += 1
        rows = behind(rows, notice)
    if max([notice[3] for notice in notices], default=0) > mark + MOST_ABOVE:
        raise TooLarge(MOST_ABOVE)


def _facts(entries, mark, notices):
    """What the notices tell of the changes since the done moment, and since when some letter is free of all notices.

    Changes count from 1 here. A fact is (change, is_come, need): need is None, or the first and the last change that
    one more change of the letter can be, as its signs are as they were. The row of facts ends ahead of a notice that
    is impossible by itself.
    """
    # For each place the signs that were told last, and the last change that is told to be none of this letter.
    letters = [(entry[1], 0) for entry in entries]
    changes = {}
    facts = []
    for notice in notices:
        word, _, signs, told = notice
        change = told - mark
        if word == "come":
            letters.append((None, 0))
        place = len(letters) - 1 if word == "come" else notice[1] - 1
        ahead, since = letters[place]
        if change <= since or change in changes:
            break
        changes[change] = True
        facts.append((change, word == "come", (since + 1, change - 1) if ahead == signs else None))
        # The notice was told when the greatest mark told until then had been given, or later.
        letters[place] = (signs, max(changes))
    return (facts, min([letter[1] for letter in letters], default=0))


def _first_impossible(facts):
    """How many of the facts can be true together, from the first one on."""
    many, least = len(facts), 0
    if Changes(facts).can_be(None, None):
        return many
    # More facts leave fewer histories: halve between so many that can be true and so many that can not.
    while many - least > 1:
        half = (many + least) // 2
        if Changes(facts[:half]).can_be(None, None):
            least = half
        else:
            many = half
    return least


class Changes:
    """The changes since the done moment, as far as facts tell them: those that they leave open can be anything."""

    def __init__(self, facts):
        self._last = max([fact[0] for fact in facts], default=0)
        self._told = {fact[0]: True for fact in facts}
        # The last change by which each letter that came must have come, by the order of their numbers.
        self._comes = [fact[0] for fact in facts if fact[1]]
        self._needs = [fact[2] for fact in facts if fact[2] is not None]

    def first_in_doubt(self, since):
        """The first change that can be one of which the list does not tell."""
        for change in range(1, self._last + 1):
            if change not in self._told:
                # It is a change of a letter that is free of notices, or a letter comes behind all that are told.
                if self.can_be(change, None if since < change else change):
                    return change
        return self._last + 1

    def can_be(self, spared, limit):
        """Whether all that is told can be, if the spared change is none of it, and all letters came ahead of limit.

        From behind, each letter comes as late as can be, but needs of other letters are left room for.
        """
        free = self._count_free(spared)
        waiting = sorted([need[0] for need in self._needs])
        pending = []
        left = len(self._comes)
        for change in range(self._last, 0, -1):
            pending.extend([need[0] for need in self._needs if need[1] == change])
            can_come = left > 0 and (limit is None or change < limit)
            if free[change] == free[change - 1]:
                # A letter that was told with this mark can have come just then, which needs no other change.
                if can_come and self._comes[left - 1] == change:
                    left -= 1
            elif can_come and change < self._comes[left - 1] and _have_room(waiting, free, change):
                left -= 1
            elif pending:
                first = max(pending)
                if first > change:
                    return False
                pending.remove(first)
                waiting.remove(first)
        return left == 0 and not waiting

    def _count_free(self, spared):
        """For each change how many up to it are not told, the spared one left aside."""
        free = [0]
        for change in range(1, self._last + 1):
            is_open = change not in self._told and change != spared
            free.append(free[-1] + (1 if is_open else 0))
        return free


def _have_room(waiting, free, change):
    """Whether all needs that wait find a free change of their own ahead of this one, by where they begin."""
    for many, first in enumerate(waiting[::-1], start=1):
        if free[change - 1] - free[first - 1] < many:
            return False
    return True
