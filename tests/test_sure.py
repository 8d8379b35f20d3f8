"""[4.5] and [4.6]: the sure mark: edges, long rows and errors."""

import copy
import random
import unittest

from mailtide.errors import BadNotice, BadRow, BadValue, TooLarge
from mailtide.sure import sure_mark
from tests.test_views import LIST, is_notice
from tests.wrong import is_whole, objects, raised

BASE = [(1, (), 3), (2, ("a",), 9), (4, (), 10)]


def come(number, mark, signs=()):
    return ("come", number, signs, mark)


def letter(place, mark, signs=()):
    return ("letter", place, signs, mark)


class Examples(unittest.TestCase):

    def test_example(self):
        rows = [letter(1, 12, ("a",)), letter(1, 12), come(5, 11)]
        self.assertEqual([sure_mark(BASE, 10, 5, [row]) for row in rows], [10, 12, 11])

    def test_nothing_told(self):
        for entries in (BASE, [], ()):
            for notices in ([], ()):
                self.assertEqual(sure_mark(entries, 10, 5, notices), 10)
        self.assertEqual(sure_mark([], 0, 1, []), 0)

    def test_marks_in_a_row(self):
        self.assertEqual(sure_mark(BASE, 10, 5, [come(5, 11), letter(1, 12, ("z",)), letter(4, 13, ("b",))]), 13)
        self.assertEqual(sure_mark(BASE, 10, 5, [come(5, 11), letter(1, 12, ("z",)), letter(4, 14, ("b",))]), 12)

    def test_told_behind_greater_marks(self):
        # The greatest mark alone would lose what took mark 11, if this is told later, or not at all.
        self.assertEqual(sure_mark(BASE, 10, 5, [letter(2, 12)]), 10)
        self.assertEqual(sure_mark(BASE, 10, 5, [letter(2, 12), letter(1, 11, ("q",))]), 12)
        self.assertEqual(sure_mark(BASE, 10, 6, [come(6, 13), letter(3, 11, ("q",)), letter(2, 12)]), 13)

    def test_signs_as_they_were(self):
        # One more change of the letter must be hidden, and there is one mark for it.
        self.assertEqual(sure_mark(BASE, 10, 5, [letter(3, 12)]), 12)
        self.assertEqual(sure_mark(BASE, 10, 5, [letter(3, 13)]), 10)
        self.assertEqual(sure_mark(BASE, 10, 5, [letter(3, 14), letter(1, 12, ("q",)), letter(2, 13)]), 14)
        self.assertEqual(raised(sure_mark, BASE, 10, 5, [letter(3, 11)]), ("BadNotice", 0))
        # Here two letters need one more change each, and mark 11 is the only one for both.
        self.assertEqual(raised(sure_mark, BASE, 10, 5, [letter(3, 14), letter(1, 12), letter(2, 13)]), ("BadNotice", 2))
        self.assertEqual(raised(sure_mark, BASE, 10, 5, [letter(3, 12), letter(1, 13), letter(2, 11)]), ("BadNotice", 1))

    def test_signs_of_a_letter_that_came(self):
        self.assertEqual(sure_mark([], 10, 1, [come(1, 11), letter(1, 13)]), 13)
        self.assertEqual(sure_mark([], 10, 1, [come(1, 11), letter(1, 13, ("a",))]), 11)
        self.assertEqual(raised(sure_mark, [], 10, 1, [come(1, 11), letter(1, 12)]), ("BadNotice", 1))

    def test_empty_list(self):
        # There is nothing to change ahead of the first letter, so it took the first mark; the next one can have come.
        self.assertEqual(sure_mark([], 10, 3, [come(3, 12)]), 12)
        self.assertEqual(sure_mark([], 10, 3, [come(3, 13)]), 11)
        self.assertEqual(sure_mark([], 10, 3, [come(3, 11)]), 11)
        # Two letters must come by mark 12, and by mark 13: the second one is the only thing that mark 12 can be.
        self.assertEqual(sure_mark([], 10, 3, [come(3, 14), come(4, 12)]), 12)
        self.assertEqual(sure_mark([], 10, 3, [come(3, 13), come(4, 12)]), 13)

    def test_a_letter_that_came_is_free_behind_its_notice(self):
        # Behind mark 11 letter 3 can be changed again, or go.
        self.assertEqual(sure_mark([], 10, 3, [come(3, 11), come(4, 13)]), 11)
        # Here both were told behind the last mark: the first of them came at mark 11, mark 12 was one of theirs.
        self.assertEqual(sure_mark([], 10, 3, [come(3, 14), come(4, 13)]), 14)
        self.assertEqual(sure_mark([], 10, 3, [come(3, 15), come(4, 14)]), 12)
        self.assertEqual(sure_mark([], 10, 3, [come(3, 13), come(4, 12)]), 13)
        self.assertEqual(raised(sure_mark, [], 10, 3, [come(3, 13), come(4, 11)]), ("BadNotice", 1))

    def test_a_letter_is_not_changed_until_it_is_told(self):
        self.assertEqual(raised(sure_mark, BASE, 10, 5, [letter(1, 14, ("q",)), letter(2, 11), letter(2, 13, ("a",))]),
                         ("BadNotice", 2))
        # Letter 4 is told nothing of, so it can be what took mark 12.
        self.assertEqual(sure_mark(BASE, 10, 5, [letter(1, 14, ("q",)), letter(2, 11), letter(2, 16)]), 11)
        # Letter 2 alone can have been changed at mark 12, or letter 5 came then: both are told with later marks.
        self.assertEqual(sure_mark(BASE[1:2], 10, 5, [letter(1, 11), come(5, 13), letter(1, 14, ("q",))]), 14)
        self.assertEqual(sure_mark(BASE[1:2], 10, 5, [letter(1, 11), come(5, 13)]), 11)
        # A new letter can have come ahead of what is told of the only one.
        self.assertEqual(sure_mark(BASE[1:2], 10, 5, [letter(1, 13), letter(1, 15, ("q",))]), 10)

    def test_own_slot_is_kept_for_a_letter(self):
        # Letter 2 must come at mark 13, letter 1 at its own mark: so the hidden change of the old one took mark 11.
        entries, rows = [(1, (), 5)], [come(2, 12), come(3, 16), come(4, 15), letter(1, 14)]
        self.assertEqual(sure_mark(entries, 10, 2, rows), 16)

    def test_rows_that_no_history_leads_to(self):
        for notices, at in (
            ([letter(1, 10, ("q",))], 0), ([letter(1, 4, ("q",))], 0), ([come(5, 10)], 0), ([come(5, 0)], 0),
            ([come(5, 11), letter(1, 11, ("q",))], 1), ([letter(1, 11, ("q",)), letter(2, 11)], 1),
            ([come(5, 12), come(6, 11)], 1), ([come(5, 13), come(6, 12), letter(1, 11, ("q",))], 2),
            ([come(5, 14), come(6, 13), come(7, 12)], 2), ([come(5, 11), come(6, 12), letter(3, 12, ("q",))], 2),
        ):
            self.assertEqual(raised(sure_mark, BASE, 10, 5, notices), ("BadNotice", at), notices)
            # Those behind it are looked at no more.
            self.assertEqual(raised(sure_mark, BASE, 10, 5, notices + [letter(3, 99, ("q",))]), ("BadNotice", at), notices)


class LongRows(unittest.TestCase):

    def test_three_hundred_above(self):
        self.assertEqual(sure_mark(BASE, 10, 5, [come(5, 310)]), 10)
        self.assertEqual(raised(sure_mark, BASE, 10, 5, [come(5, 311)]), ("TooLarge", 300))
        self.assertEqual(sure_mark([], 10, 5, [come(5, 310)]), 11)
        rows = [letter(3, mark, ("a",) * (mark % 2)) for mark in range(11, 311)]
        self.assertEqual(sure_mark(BASE, 10, 5, rows), 310)
        # The signs tell what took one mark that is left out, but not what took two.
        self.assertEqual(sure_mark(BASE, 10, 5, rows[:100] + rows[101:]), 310)
        self.assertEqual(sure_mark(BASE, 10, 5, rows[:100] + rows[102:]), 110)

    def test_each_second_mark(self):
        # Each hidden change has just one mark to be at.
        rows = [letter(1, mark) for mark in range(12, 311, 2)]
        self.assertEqual(sure_mark([(1, (), 5)], 10, 2, rows), 310)
        self.assertEqual(sure_mark(BASE, 10, 5, rows), 310)
        self.assertEqual(sure_mark(BASE, 10, 5, rows[:50] + rows[51:]), 110)
        rows = rows[:50] + [letter(2, 111, ("b",))] + rows[50:]
        self.assertEqual(raised(sure_mark, BASE, 10, 5, rows), ("BadNotice", 51))

    def test_a_hundred_letters(self):
        rows = [come(5 + at, 11 + at) for at in range(100)]
        self.assertEqual(sure_mark(BASE, 10, 5, rows), 110)
        self.assertEqual(sure_mark([], 10, 5, rows[:40] + [come(45 + at, 52 + at) for at in range(60)]), 50)
        # The last one of them is told with the least mark: all came by then, with one mark for each, or one more.
        for begin, mark in ((209, 209), (210, 210), (211, 110), (212, 110)):
            self.assertEqual(sure_mark([], 10, 5, [come(5 + at, begin - at) for at in range(100)]), mark)
        rows = [come(5 + at, 208 - at) for at in range(100)]
        self.assertEqual(raised(sure_mark, [], 10, 5, rows), ("BadNotice", 99))

    def test_a_hundred_letters_that_are_told_again(self):
        # Their signs are as they were: so each was changed once more between, at one of a hundred marks.
        rows = [come(5 + at, 11 + at) for at in range(100)] + [letter(1 + at, 211 + at) for at in range(100)]
        self.assertEqual(sure_mark([], 10, 5, rows), 310)
        self.assertEqual(sure_mark([], 10, 5, rows[:-1]), 110)
        self.assertEqual(raised(sure_mark, [], 10, 5, rows[:150] + [letter(3, 210, ("b",))] + rows[150:]), ("BadNotice", 150))

    def test_two_hundred_entries(self):
        entries = [(number, (), number) for number in range(1, 201)]
        self.assertEqual(sure_mark(entries, 200, 201, []), 200)
        rows = [letter(at, 200 + at, ("a",)) for at in range(1, 201)]
        self.assertEqual(sure_mark(entries, 200, 201, rows), 400)
        self.assertEqual(sure_mark(entries, 200, 201, rows[::-1]), 400)
        self.assertEqual(sure_mark(entries, 200, 201, rows[5:] + rows[:4]), 204)


class Errors(unittest.TestCase):

    def test_entries(self):
        for value in objects():
            if not isinstance(value, (list, tuple)):
                self.assertEqual(raised(sure_mark, value, None, None, None), ("BadRow", -1))
        self.assertEqual(raised(sure_mark, [BASE[1], BASE[0]], None, None, None), ("BadRow", 1))
        for value in objects() + [(8, (), -1), (8, ["a"], 1), (4, (), 1), (True, (), 1)]:
            self.assertEqual(raised(sure_mark, BASE + [value], None, None, None), ("BadRow", 3))
        self.assertRaises(BadRow, sure_mark, None, 1, 1, [])

    def test_mark(self):
        for value in objects() + [9, 0, -1, True]:
            if not is_whole(value, 10):
                self.assertEqual(raised(sure_mark, BASE, value, None, None), ("BadValue", "mark"))
        self.assertEqual(raised(sure_mark, [(1, (), 9), (2, (), 3)], 8, 3, []), ("BadValue", "mark"))
        self.assertEqual(raised(sure_mark, [], -1, 3, []), ("BadValue", "mark"))
        self.assertRaises(BadValue, sure_mark, BASE, None, 5, [])

    def test_upcoming(self):
        for value in objects() + [4, 1, 0, -1, True]:
            if not is_whole(value, 5):
                self.assertEqual(raised(sure_mark, BASE, 10, value, None), ("BadValue", "upcoming"))
        for value in (0, True, -1, None):
            self.assertEqual(raised(sure_mark, [], 10, value, None), ("BadValue", "upcoming"))
        self.assertEqual(sure_mark(BASE, 10, 10 ** 29, [come(10 ** 29, 11)]), 11)

    def test_notices(self):
        for value in objects():
            if not isinstance(value, (list, tuple)):
                self.assertEqual(raised(sure_mark, BASE, 10, 5, value), ("BadNotice", -1))
            self.assertEqual(raised(sure_mark, BASE, 10, 5, [come(5, 11), value, come(6, 999)]), ("BadNotice", 1))
        self.assertRaises(BadNotice, sure_mark, BASE, 10, 5, {})

    def test_notices_that_do_not_fit(self):
        for value in (letter(1, 3), letter(5, 20), letter(2, 9), come(4, 20), come(5, 20)[:3], letter(1, 12, ("b", "a")),
                      letter(1, -1), letter(True, 12), come(6, None), letter(4, 11)):
            self.assertEqual(raised(sure_mark, BASE, 10, 5, [come(5, 11), value]), ("BadNotice", 1), value)

    def test_notices_that_are_no_such_ones(self):
        for value in (("gone", 1), ("done", 11, 6), ("done", 10, 5), come(7, 12), come(5, 12), come(99, 12)):
            self.assertEqual(raised(sure_mark, BASE, 10, 5, [come(5, 11), value]), ("BadNotice", 1), value)
        # The first number that is told must be the upcoming one, also where the list ends far ahead of it.
        self.assertEqual(raised(sure_mark, BASE, 10, 7, [come(5, 11)]), ("BadNotice", 0))
        self.assertEqual(raised(sure_mark, [], 10, 7, [come(8, 11)]), ("BadNotice", 0))

    def test_order(self):
        none_left, too_great = letter(1, 10, ("q",)), letter(2, 311)
        self.assertEqual(raised(sure_mark, BASE, 10, 5, [none_left, too_great, ("gone", 1)]), ("BadNotice", 2))
        self.assertEqual(raised(sure_mark, BASE, 10, 5, [none_left, too_great]), ("TooLarge", 300))
        self.assertEqual(raised(sure_mark, BASE, 10, 5, [none_left]), ("BadNotice", 0))
        self.assertEqual(raised(sure_mark, BASE, 9, 4, [None]), ("BadValue", "mark"))
        self.assertEqual(raised(sure_mark, BASE, 10, 4, [None]), ("BadValue", "upcoming"))
        self.assertRaises(TooLarge, sure_mark, BASE, 10, 5, [too_great])

    def test_forms_of_notices(self):
        for notice in (come(5, 11), letter(1, 11, ("z",))):
            for at in range(len(notice)):
                for value in objects():
                    other = notice[:at] + (value,) + notice[at + 1:]
                    if not is_notice(other):
                        self.assertEqual(raised(sure_mark, BASE, 10, 5, [other]), ("BadNotice", 0))

    def test_arguments_stay(self):
        entries, notices = list(LIST), [come(8, 20), letter(1, 21)]
        kept = copy.deepcopy((entries, notices))
        sure_mark(entries, 9, 8, notices)
        self.assertEqual((entries, notices), kept)
        self.assertEqual(sure_mark(tuple(entries), 9, 8, tuple(notices)), sure_mark(entries, 9, 8, notices))


class Facts(unittest.TestCase):

    def test_from_the_mark_to_the_greatest_one_told(self):
        for seed in range(300):
            chance, rows, many = random.Random(seed), [], 5
            for mark in chance.sample(range(11, 30), chance.randint(1, 9)):
                if chance.random() < 0.4:
                    rows.append(come(many, mark))
                    many += 1
                else:
                    rows.append(letter(chance.randint(1, many - 2), mark, (chance.choice("xyz"),)))
            try:
                mark = sure_mark(BASE, 10, 5, rows)
            except BadNotice as error:
                self.assertLess(error.at, len(rows))
                continue
            self.assertTrue(10 <= mark <= max(row[3] for row in rows))


if __name__ == "__main__":
    unittest.main()
