"""[4.5] and [4.6] against a search through all histories that lead on from the done moment."""

import itertools
import random
import unittest

from mailtide.errors import BadNotice
from mailtide.sure import sure_mark

# Three are enough to make signs unlike those of now and those at last.
SIGNS = ((), ("a",), ("b",))
MARK = 10
LISTS = (
    [], [(2, (), 7)], [(1, (), 3), (2, ("a",), 9)], [(1, ("a",), 10), (3, ("a",), 9)],
)


def upcoming_of(entries):
    return max([entry[0] for entry in entries], default=1) + 1


def facts_of(entries, upcoming, notices):
    """For each notice (number, signs, mark, the greatest number told ahead of it, if it is come)."""
    numbers, facts = [entry[0] for entry in entries], []
    for notice in notices:
        if notice[0] == "come":
            top = max([upcoming - 1, *numbers])
            numbers.append(notice[1])
            facts.append((*notice[1:], top))
        else:
            facts.append((numbers[notice[1] - 1], *notice[2:], None))
    return facts


class Search:
    """All histories with so many changes at most in which the notices can be told."""

    def __init__(self, entries, upcoming, notices, most):
        self.facts = facts_of(entries, upcoming, notices)
        self.told = {entry[0]: entry[2] for entry in entries}
        for number, _, mark, _ in self.facts:
            self.told[number] = mark
        self.last, self.seen, self.marks = MARK + most, set(), []
        self.go(MARK, {entry[0]: entry[1:] for entry in entries}, upcoming, {}, 0)

    def safe_mark(self, letters, gone):
        """The greatest safe mark, if there is one, behind a history."""
        marks = [mark for number, (_, mark) in letters.items() if self.told.get(number) != mark]
        marks += [mark for number, mark in gone.items() if number in self.told]
        return min(marks) - 1 if marks else None

    def go(self, mark, letters, upcoming, gone, at):
        # Each notice is told as soon as it is right: that leaves all moments behind to those that follow.
        while at < len(self.facts) and self.is_right(self.facts[at], letters):
            at += 1
        state = (mark, tuple(sorted(letters.items())), upcoming, tuple(sorted(gone.items())), at)
        if state in self.seen:
            return
        self.seen.add(state)
        if at == len(self.facts):
            self.marks.append(self.safe_mark(letters, gone))
        if mark < self.last:
            mark += 1
            for signs in SIGNS:
                self.go(mark, {**letters, upcoming: (signs, mark)}, upcoming + 1, gone, at)
                for number, (old, _) in letters.items():
                    if signs != old:
                        self.go(mark, {**letters, number: (signs, mark)}, upcoming, gone, at)
            for number in letters:
                rest = {other: letters[other] for other in letters if other != number}
                self.go(mark, rest, upcoming, {**gone, number: mark}, at)

    def is_right(self, fact, letters):
        number, signs, mark, top = fact
        if letters.get(number) != (signs, mark):
            return False
        return top is None or min(other for other in letters if other > top) == number


def expected(entries, upcoming, notices):
    """The greatest sure mark, or the index of the first notice by which no history is left."""
    for many in range(1, len(notices) + 1):
        greatest = max(notice[3] for notice in notices[:many])
        if not Search(entries, upcoming, notices[:many], greatest - MARK).marks:
            return ("BadNotice", many - 1)
    greatest = max([notice[3] for notice in notices], default=MARK)
    # One more change can always be hidden behind all of them.
    marks = Search(entries, upcoming, notices, greatest - MARK + 1).marks
    return min(mark for mark in marks if mark is not None)


def found(entries, upcoming, notices):
    try:
        return sure_mark(entries, MARK, upcoming, notices)
    except BadNotice as error:
        return ("BadNotice", error.at)


def rows_of(entries, upcoming, most, last):
    """All rows of as many notices at most, which fit, with marks up to the last one."""
    rows = [[]]
    for row in rows:
        yield row
        if len(row) < most:
            facts = facts_of(entries, upcoming, row)
            told = {entry[0]: entry[2] for entry in entries}
            told.update({fact[0]: fact[2] for fact in facts})
            following = max([upcoming - 1, *told]) + 1
            for signs, mark in itertools.product(SIGNS[:2], range(MARK, last + 1)):
                rows.append(row + [("come", following, signs, mark)])
                for place, number in enumerate(sorted(told), start=1):
                    if mark > told[number]:
                        rows.append(row + [("letter", place, signs, mark)])


class Plan:
    """A search through all kinds of changes that the marks can have been, each letter being in one of few states.

    A letter has not come ("new"), has signs like those that are told of it next ("like") or unlike ones ("unlike"), is
    told no more ("free"), or went at the mark in question ("went"). Letters that are never told can come behind all
    that are told. So much longer rows can be looked through than by all histories.
    """

    def __init__(self, entries, upcoming, notices):
        self.signs = {entry[0]: entry[1] for entry in entries}
        self.tales = {number: [] for number in self.signs}
        self.owners, self.last, self.is_hopeless = {}, 0, False
        self.upcoming = upcoming
        for number, signs, mark, _ in facts_of(entries, upcoming, notices):
            mark -= MARK
            self.is_hopeless = self.is_hopeless or mark < 1 or mark in self.owners
            self.owners[mark] = number
            self.last = max(self.last, mark)
            # Nothing is done to the letter from its mark on to the moment when it is told.
            self.tales.setdefault(number, []).append((mark, signs, self.last))
        self.letters = sorted(self.tales)
        self.following = 1 + max([upcoming - 1, *self.letters])

    def state_of(self, number, signs, mark):
        later = [tale for tale in self.tales[number] if tale[0] > mark]
        return "free" if not later else "like" if later[0][1] == signs else "unlike"

    def can_be(self, doubt=None):
        """Whether the notices can be told, and, if a mark is in doubt, it be one of which the list does not tell."""
        begin = [self.state_of(number, self.signs[number], 0) if number in self.signs else "new" for number in self.letters]
        states = set() if self.is_hopeless else {(self.upcoming, tuple(begin))}
        for mark in range(1, self.last + 1):
            states = {later for state in states for later in self.behind(state, mark, mark == doubt)}
        return bool(states)

    def behind(self, state, mark, is_doubt):
        following, letters = state
        is_free = {
            number: not any(told < mark <= until for told, _, until in self.tales[number]) for number in self.letters
        }

        def changed(number, word, upcoming=following):
            at = self.letters.index(number)
            return (upcoming, letters[:at] + (word,) + letters[at + 1:])

        if mark in self.owners:
            number = self.owners[mark]
            old = letters[self.letters.index(number)]
            signs = [tale[1] for tale in self.tales[number] if tale[0] == mark][0]
            if old == "unlike" and is_free[number]:
                yield changed(number, self.state_of(number, signs, mark))
            elif old == "new" and number == following:
                yield changed(number, self.state_of(number, signs, mark), following + 1)
            return
        if following == self.following:
            yield state
        elif not is_doubt:
            yield changed(following, "like", following + 1)
            yield changed(following, "unlike", following + 1)
        for number, word in zip(self.letters, letters):
            if is_free[number] and word == "free":
                yield changed(number, "went") if is_doubt else state
            elif is_free[number] and word in ("like", "unlike") and not is_doubt:
                yield changed(number, "unlike")
                if word == "unlike":
                    yield changed(number, "like")


def planned(entries, upcoming, notices):
    """The greatest sure mark, or the index of the first notice by which no history is left, by plans."""
    for many in range(1, len(notices) + 1):
        if not Plan(entries, upcoming, notices[:many]).can_be():
            return ("BadNotice", many - 1)
    plan = Plan(entries, upcoming, notices)
    for mark in range(1, plan.last + 1):
        if mark not in plan.owners and plan.can_be(mark):
            return MARK + mark - 1
    return MARK + plan.last


def drawn_row(chance, entries, upcoming, most, letters):
    """A long row of notices that fit, with marks all unlike, told about in their order or not."""
    marks = [mark for mark in range(MARK + 1, MARK + most + 1) if chance.random() < 0.55]
    if chance.random() < 0.5:
        chance.shuffle(marks)
    elif len(marks) > 2:
        at = chance.randrange(len(marks) - 1)
        marks[at], marks[at + 1] = marks[at + 1], marks[at]
    rows, notices, following = [list(entry) for entry in entries], [], upcoming
    come, alike = chance.choice((0.2, 0.5, 0.8)), chance.choice((0.3, 0.7, 1))
    for mark in marks:
        signs = chance.choice(SIGNS[:2])
        older = [at for at, row in enumerate(rows) if row[2] < mark]
        if following - upcoming < letters and (chance.random() < come or not rows):
            notices.append(("come", following, signs, mark))
            rows.append([following, signs, mark])
            following += 1
        elif older:
            at = chance.choice(older)
            signs = rows[at][1] if chance.random() < alike else signs
            notices.append(("letter", at + 1, signs, mark))
            rows[at] = [rows[at][0], signs, mark]
    return notices


class Sure(unittest.TestCase):

    def compare(self, entries, upcoming, row):
        self.assertEqual(found(entries, upcoming, row), expected(entries, upcoming, row), (entries, upcoming, row))

    def test_all_rows_of_two_notices(self):
        for entries in LISTS:
            for row in rows_of(entries, upcoming_of(entries), 2, MARK + 3):
                self.compare(entries, upcoming_of(entries), row)

    def test_rows_of_three_notices(self):
        for entries in LISTS:
            for row in list(rows_of(entries, upcoming_of(entries), 3, MARK + 3))[::53]:
                self.compare(entries, upcoming_of(entries), row)

    def test_rows_up_to_mark_four(self):
        chance = random.Random(3)
        for entries in LISTS:
            for row in chance.sample(list(rows_of(entries, upcoming_of(entries), 2, MARK + 4)), 12):
                self.compare(entries, upcoming_of(entries), row)

    def test_plans_are_as_all_histories(self):
        for entries in LISTS:
            upcoming = upcoming_of(entries)
            for row in list(rows_of(entries, upcoming, 2, MARK + 3))[::7]:
                self.assertEqual(planned(entries, upcoming, row), expected(entries, upcoming, row), (entries, row))

    def test_long_rows(self):
        chance = random.Random(8)
        for most, letters, many in ((6, 3, 400), (9, 4, 400), (12, 6, 500), (16, 7, 200)):
            for _ in range(many):
                entries = chance.choice(LISTS[:3])
                row = drawn_row(chance, entries, upcoming_of(entries), most, letters)
                self.assertEqual(found(entries, upcoming_of(entries), row), planned(entries, upcoming_of(entries), row), row)

    def test_letters_and_hidden_changes_that_want_the_same_marks(self):
        def come(number, mark):
            return ("come", number, (), mark)

        def letter(place, mark, signs=()):
            return ("letter", place, signs, mark)

        one, two = [(1, (), 3)], [(1, (), 3), (2, ("a",), 9)]
        for entries, row, mark in (
            (one, [come(2, 16), letter(1, 12)], 13), (one, [letter(1, 12), letter(1, 16), come(2, 18)], 13),
            (one, [letter(1, 13), letter(1, 18), come(2, 16), come(3, 15)], 16),
            ([], [come(2, 13), come(3, 18), letter(1, 15)], 15),
            (two, [letter(2, 12), letter(2, 14), letter(1, 15), come(3, 20), come(4, 17)], 17),
            (two, [letter(2, 14, ("a",)), letter(1, 15), letter(1, 22), letter(2, 18, ("a",)), come(3, 21), come(4, 19)], 19),
            (two, [letter(2, 12, ("a",)), letter(2, 14, ("a",)), letter(1, 18), letter(2, 23, ("a",)), letter(1, 21),
                   come(3, 20)], 15),
            (one, [come(2, 12), come(3, 16), come(4, 15), letter(1, 14)], 16),
        ):
            self.assertEqual(planned(entries, upcoming_of(entries), row), mark, row)
            self.assertEqual(found(entries, upcoming_of(entries), row), mark, row)

    def test_upcoming_far_above(self):
        for entries in LISTS[:2]:
            for row in list(rows_of(entries, 9, 2, MARK + 3))[::3]:
                self.compare(entries, 9, row)


if __name__ == "__main__":
    unittest.main()
