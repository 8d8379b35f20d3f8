"""[4.1], [4.2] and [4.6]: clients' lists and the notices that change them."""

import copy
import random
import unittest

from mailtide.errors import BadNotice, BadRow
from mailtide.views import applied
from tests.test_folders import SIX
from tests.wrong import is_signs, is_whole, objects, raised

LIST = [(2, (), 4), (3, ("a",), 9), (7, SIX, 5)]


def is_notice(value):
    """Whether the value is a notice, as the document words it, whatever list it is told of."""
    if type(value) is not tuple or not value or type(value[0]) is not str:
        return False

    def number(value):
        return is_whole(value, 1)

    def mark(value):
        return is_whole(value, 0)

    kinds = {"come": (number, is_signs, mark), "letter": (number, is_signs, mark), "gone": (number,), "done": (mark, number)}
    kind = kinds.get(value[0])
    return kind is not None and len(kind) == len(value) - 1 and all(map(lambda f, x: f(x), kind, value[1:]))


class Fitting(unittest.TestCase):

    def test_none(self):
        for notices in ([], ()):
            self.assertEqual(applied(LIST, notices), LIST)
            self.assertEqual(applied((), notices), [])

    def test_come(self):
        self.assertEqual(applied(LIST, [("come", 8, ("b",), 2)]), LIST + [(8, ("b",), 2)])
        self.assertEqual(applied([], [("come", 1, (), 0), ("come", 10 ** 30 - 1, SIX, 0)]), [(1, (), 0), (10 ** 30 - 1, SIX, 0)])
        for number in (1, 3, 5, 7):
            self.assertEqual(raised(applied, LIST, [("come", number, (), 12)]), ("BadNotice", 0))
        # Behind the going of the last letter, numbers above those that are in the list fit again.
        self.assertEqual(applied(LIST, [("gone", 3), ("come", 4, (), 1)]), LIST[:2] + [(4, (), 1)])

    def test_letter(self):
        self.assertEqual(applied(LIST, [("letter", 1, ("z",), 5)]), [(2, ("z",), 5)] + LIST[1:])
        self.assertEqual(applied(LIST, [("letter", 3, (), 6), ("letter", 3, (), 8)]), LIST[:2] + [(7, (), 8)])
        for place, mark in ((1, 4), (1, 3), (2, 9), (3, 5), (4, 99), (10 ** 29, 99)):
            self.assertEqual(raised(applied, LIST, [("letter", place, (), mark)]), ("BadNotice", 0))
        self.assertEqual(raised(applied, LIST, [("letter", 1, (), 6), ("letter", 1, ("a",), 6)]), ("BadNotice", 1))
        self.assertEqual(raised(applied, [], [("letter", 1, (), 6)]), ("BadNotice", 0))

    def test_gone(self):
        self.assertEqual(applied(LIST, [("gone", 2)]), [LIST[0], LIST[2]])
        self.assertEqual(applied(LIST, [("gone", 1), ("gone", 1), ("gone", 1)]), [])
        # Those behind move up.
        self.assertEqual(applied(LIST, [("gone", 1), ("letter", 2, (), 6)]), [LIST[1], (7, (), 6)])
        self.assertEqual(raised(applied, LIST, [("gone", 3), ("gone", 3)]), ("BadNotice", 1))
        self.assertEqual(raised(applied, LIST, [("gone", 4)]), ("BadNotice", 0))

    def test_done(self):
        for mark, following in ((9, 8), (9, 10 ** 29), (50, 9)):
            self.assertEqual(applied(LIST, [("done", mark, following)]), LIST)
        for mark, following in ((8, 8), (0, 9), (9, 7), (9, 1), (5, 5)):
            self.assertEqual(raised(applied, LIST, [("done", mark, following)]), ("BadNotice", 0))
        self.assertEqual(applied([], [("done", 0, 1)]), [])
        self.assertEqual(applied(LIST, [("gone", 2), ("done", 5, 8)]), [LIST[0], LIST[2]])

    def test_done_behind_another_one(self):
        self.assertEqual(applied(LIST, [("done", 12, 9), ("done", 12, 8), ("done", 13, 8)]), LIST)
        self.assertEqual(raised(applied, LIST, [("done", 12, 9), ("done", 11, 9)]), ("BadNotice", 1))
        self.assertEqual(raised(applied, [], [("done", 5, 1), ("come", 1, (), 2), ("done", 4, 2)]), ("BadNotice", 2))
        # The marks of letters are held against those of their letters alone.
        self.assertEqual(applied(LIST, [("done", 20, 8), ("letter", 1, (), 6)])[0], (2, (), 6))

    def test_row_of_all_kinds(self):
        notices = (("come", 9, (), 11), ("gone", 2), ("letter", 3, ("q",), 12), ("done", 12, 10), ("come", 11, ("r",), 13))
        self.assertEqual(applied(tuple(LIST), notices), [LIST[0], LIST[2], (9, ("q",), 12), (11, ("r",), 13)])

    def test_against_a_model(self):
        chance = random.Random(5)
        for _ in range(300):
            rows = {number: ((), chance.randint(0, 9)) for number in chance.sample(range(1, 9), chance.randint(0, 4))}
            entries = [(number, *rows[number]) for number in sorted(rows)]
            notices, floor, wrong = [], 0, None
            for at in range(chance.randint(0, 8)):
                place, signs, mark = chance.randint(1, 5), chance.choice(((), ("a",))), chance.randint(0, 14)
                notice = chance.choice((
                    ("come", place + 5, signs, mark), ("letter", place, signs, mark), ("gone", place), ("done", mark, place + 7),
                ))
                notices.append(notice)
                numbers = sorted(rows)
                number = numbers[place - 1] if place <= len(numbers) else None
                if notice[0] == "come":
                    fits = all(other < place + 5 for other in numbers)
                elif notice[0] == "done":
                    fits = all(other < place + 7 for other in numbers) and mark >= max([floor, *[r[1] for r in rows.values()]])
                else:
                    fits = number is not None and (notice[0] == "gone" or mark > rows[number][1])
                if not fits:
                    wrong = at
                    break
                if notice[0] == "gone":
                    del rows[number]
                elif notice[0] == "done":
                    floor = mark
                else:
                    rows[place + 5 if notice[0] == "come" else number] = (signs, mark)
            if wrong is None:
                self.assertEqual(applied(entries, notices), [(number, *rows[number]) for number in sorted(rows)])
            else:
                self.assertEqual(raised(applied, entries, notices + [None]), ("BadNotice", wrong))


class Values(unittest.TestCase):

    def test_arguments_stay(self):
        entries, notices = list(LIST), [("gone", 1), ("come", 8, (), 3)]
        kept = copy.deepcopy((entries, notices))
        end = applied(entries, notices)
        self.assertEqual((entries, notices), kept)
        end.clear()
        self.assertEqual(applied(entries, notices), [*LIST[1:], (8, (), 3)])

    def test_list_is_new(self):
        entries = list(LIST)
        self.assertIsNot(applied(entries, []), entries)
        self.assertIs(type(applied(tuple(LIST), ())), list)
        for row in applied(LIST, [("letter", 1, (), 5), ("come", 8, (), 3)]):
            self.assertIs(type(row), tuple)


class Errors(unittest.TestCase):

    def test_entries(self):
        for value in objects():
            if not isinstance(value, (list, tuple)):
                self.assertEqual(raised(applied, value, None), ("BadRow", -1))
        wrong = objects() + [
            (8,), (8, ()), (8, (), 3, 4), [8, (), 3], (0, (), 3), (True, (), 3), ("8", (), 3), (8, [], 3), (8, ("b", "a"), 3),
            (8, "a", 3), (8, (), -1), (8, (), None), (8, (), True), (7, (), 3), (6, (), 3), (8, (*SIX, "g"), 3),
        ]
        for value in wrong:
            self.assertEqual(raised(applied, LIST + [value, None], None), ("BadRow", 3), value)
            self.assertEqual(raised(applied, (value,), 5)[0], "BadNotice" if value in [(7, (), 3), (6, (), 3)] else "BadRow")
        self.assertEqual(raised(applied, [LIST[1], LIST[0]], None), ("BadRow", 1))
        self.assertEqual(raised(applied, [LIST[0], LIST[0]], None), ("BadRow", 1))
        self.assertRaises(BadRow, applied, {}, [])

    def test_notices(self):
        for value in objects():
            if not isinstance(value, (list, tuple)):
                self.assertEqual(raised(applied, LIST, value), ("BadNotice", -1))
        self.assertRaises(BadNotice, applied, LIST, {})

    def test_objects_in_the_stead_of_notices(self):
        fine = ("done", 9, 8)
        for at, value in enumerate(objects()):
            self.assertEqual(raised(applied, LIST, [fine] * (at % 3) + [value, None]), ("BadNotice", at % 3))

    def test_parts_of_notices(self):
        for notice in (("come", 8, ("b",), 12), ("letter", 1, (), 12), ("gone", 1), ("done", 12, 9)):
            self.assertTrue(is_notice(notice))
            wrong = [notice[:many] for many in range(len(notice))] + [notice + (value,) for value in (None, (), 1)]
            wrong += [list(notice), (notice,), (notice[0].upper(), *notice[1:]), ("x", *notice[1:]), (None, *notice[1:])]
            for at in range(len(notice)):
                wrong += [notice[:at] + (value,) + notice[at + 1:] for value in objects() + [0, -1, True, ["a"], ("b", "a")]]
            for value in wrong:
                if not is_notice(value):
                    self.assertEqual(raised(applied, LIST, (value,)), ("BadNotice", 0), value)


if __name__ == "__main__":
    unittest.main()
