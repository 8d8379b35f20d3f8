"""[3.2] to [3.6] against a search through all histories of as many changes that lead to a folder."""

import itertools
import unittest

from mailtide.errors import BadRow
from mailtide.folders import Folder
from mailtide.histories import played
from mailtide.since import answer, answer_for, followed, is_answer, next_numbers, spoiler, spoils, view_of
from tests.wrong import raised

# Three are enough to make signs unlike those of now and those at last.
SIGNS = ((), ("a",), ("b",))
BODY = 5


def changes(folder):
    """Deeds for all changes of one letter that can be done to a folder."""
    deeds = [("append", BODY, signs) for signs in SIGNS]
    for number, _, old, _ in folder.letters():
        deeds += [("set", (number,), signs) for signs in SIGNS if signs != old]
        deeds.append(("remove", (number,)))
    return deeds


def searched(many):
    """For each folder of so many marks, trimmed or not: the folder, and for each mark its possible (next, rows)."""
    rows = [(Folder(3), ((1, ()),))]
    for _ in range(many):
        rows = [
            (later, (*past, (later.next_number(), view_of(later)[2])))
            for folder, past in rows for later in [played(folder, [deed]) for deed in changes(folder)]
        ]
    table = {}
    for folder, past in rows:
        for cut in range(many + 1):
            trimmed = folder.trimmed(cut)
            key = (tuple(trimmed.letters()), tuple(trimmed.gone()), trimmed.next_number(), cut)
            _, pasts = table.setdefault(key, (trimmed, [set() for _ in range(many + 1)]))
            for at, place in enumerate(past):
                pasts[at].add(place)
    return [table[key] for key in sorted(table)]


def least_for(folder, mark, views):
    """The least answer that is right for these views, by its words."""
    tables = [{row[0]: row for row in rows} for rows in views]
    changed = []
    for row in view_of(folder)[2]:
        if not all(table.get(row[0]) == row for table in tables):
            is_known = all(row[0] in table for table in tables)
            changed.append((row[0], None if is_known else row[1], row[2]))
    there = {letter[0] for letter in folder.letters()}
    gone = sorted({number for table in tables for number in table} - there)
    return (mark, folder.mark(), tuple(changed), tuple(gone))


def is_right(folder, mark, value, views):
    """Whether an answer leads from all the views to the folder's."""
    for rows in views:
        try:
            if followed((folder.age(), mark, rows), value) != view_of(folder):
                return False
        except BadRow:
            return False
    return True


def answers_beside(told, many):
    """Answers with one thing too little, too much or otherwise than in this one."""
    mark, now, changed, gone = told
    for at in range(len(changed)):
        yield (mark, now, changed[:at] + changed[at + 1:], gone)
    for at in range(len(gone)):
        yield (mark, now, changed, gone[:at] + gone[at + 1:])
    for number in range(1, many + 2):
        more = tuple(sorted({*gone, number}))
        yield (mark, now, changed, more)
        others = [row for row in changed if row[0] != number]
        for body, signs in itertools.product((None, BODY, BODY + 1), SIGNS[:2]):
            row = (number, body, signs)
            for numbers in {gone, more}:
                yield (mark, now, tuple(sorted([*others, row], key=lambda row: row[0])), numbers)


class Search(unittest.TestCase):

    def compare(self, many, step):
        for folder, pasts in searched(many)[::step]:
            for mark in range(many + 1):
                with self.subTest(letters=folder.letters(), gone=folder.gone(), cut=folder.cut(), mark=mark):
                    self.compare_at(folder, mark, pasts[mark])

    def compare_at(self, folder, mark, places):
        views = sorted({rows for _, rows in places})
        self.assertEqual(next_numbers(folder, mark), sorted({number for number, _ in places}))
        told = answer(folder, mark)
        self.assertEqual(told, least_for(folder, mark, views))
        self.compare_numbers(folder, mark, views)
        for value in [told, *answers_beside(told, folder.mark())]:
            is_so = is_right(folder, mark, value, views)
            self.assertIs(is_answer(folder, mark, value), is_so, value)
            history = spoiler(folder, mark, value)
            self.assertEqual(history is None, is_so, value)
            if not is_so:
                self.assertIs(spoils(folder, mark, value, history), True, value)

    def compare_numbers(self, folder, mark, views):
        many = folder.mark() + 1
        for size in range(many + 1):
            for numbers in itertools.combinations(range(1, many + 1), size):
                some = [rows for rows in views if tuple(row[0] for row in rows) == numbers]
                if some:
                    self.assertEqual(answer_for(folder, mark, numbers), least_for(folder, mark, some))
                else:
                    self.assertEqual(raised(answer_for, folder, mark, list(numbers)), ("BadValue", "numbers"))

    def test_up_to_two_changes(self):
        for many in range(3):
            self.compare(many, 1)

    def test_three_changes(self):
        self.compare(3, 2)

    def test_four_changes(self):
        self.compare(4, 31)


if __name__ == "__main__":
    unittest.main()
