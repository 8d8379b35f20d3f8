"""[4.3], [4.4] and [4.6]: sessions, and what they may tell."""

import itertools
import random
import unittest

from mailtide.errors import BadFolder, BadNotice, BadValue
from mailtide.folders import Folder
from mailtide.histories import played
from mailtide.views import Session, applied
from tests.drawn import some_deed, some_history
from tests.test_folders import SIX, three
from tests.wrong import objects, raised


def entries_of(folder):
    """The client's list that is in step with a folder."""
    return [(number, signs, mark) for number, _, signs, mark in folder.letters()]


class Model:
    """What a session may tell, by the document's words."""

    def __init__(self, folder):
        self.folder, self.rows = folder, entries_of(folder)
        self.ever = [row[0] for row in self.rows]

    def is_right(self, notice, is_ask):
        try:
            applied(self.rows, [notice])
        except BadNotice:
            return False
        letters = {row[0]: row for row in entries_of(self.folder)}
        if notice[0] == "come":
            new = sorted(number for number in letters if number > max([0, *self.ever]))
            return bool(new) and notice[1] == new[0] and letters[new[0]] == notice[1:]
        if notice[0] == "letter":
            return letters.get(self.rows[notice[1] - 1][0], (0, 0, 0))[1:] == notice[2:]
        if notice[0] == "gone":
            return is_ask and self.rows[notice[1] - 1][0] not in letters
        told = {row[0]: row[2] for row in self.rows}
        is_all = told == {number: row[2] for number, row in letters.items()}
        return is_ask and is_all and notice[1:] == (self.folder.mark(), self.folder.next_number())

    def tell(self, notices, is_ask):
        kept = self.rows, list(self.ever)
        for at, notice in enumerate(notices):
            if not self.is_right(notice, is_ask):
                self.rows, self.ever = kept
                return at
            self.rows = applied(self.rows, [notice])
            if notice[0] == "come":
                self.ever.append(notice[1])
        return None

    def told(self):
        return [(row[0], row[2]) for row in self.rows]


def some_notice(chance, model):
    """A notice that is right, or nearly so."""
    letters = entries_of(model.folder)
    word = chance.choice(("come", "letter", "letter", "gone", "done"))
    place = chance.randint(1, len(model.rows) + 1)
    number, signs, mark = chance.choice(letters) if letters else (1, (), 1)
    if word == "come":
        above = [row for row in letters if row[0] > max([0, *model.ever])]
        number, signs, mark = chance.choice(above[:1] * 4 + above + [(number, signs, mark)])
        return (word, number, signs, mark + (chance.random() < 0.1))
    if word == "letter":
        known = {row[0]: row for row in letters}
        if place <= len(model.rows) and model.rows[place - 1][0] in known:
            _, signs, mark = known[model.rows[place - 1][0]]
        return (word, place, () if chance.random() < 0.1 else signs, mark - (chance.random() < 0.1))
    if word == "gone":
        return (word, place)
    return (word, model.folder.mark() + (chance.random() < 0.1), model.folder.next_number() + (chance.random() < 0.1))


class Telling(unittest.TestCase):

    def setUp(self):
        self.session = Session(three())

    def test_new(self):
        self.assertEqual(self.session.told(), [(1, 1), (2, 2), (3, 3)])
        self.assertEqual(self.session.answer(), [("done", 3, 4)])
        self.assertEqual(Session(Folder(1)).told(), [])
        self.assertEqual(Session(Folder(1)).answer(), [("done", 0, 1)])

    def test_methods_stand_in_the_class(self):
        for name in ("see", "told", "tell", "answer"):
            self.assertIn(name, vars(Session))

    def test_example(self):
        folder = Folder(1).appended(7, ()).appended(8, ("a",))
        session = Session(folder)
        self.assertIsNone(session.see(folder.removed([1]).added([2], "b")))
        self.assertEqual(session.answer(), [("gone", 1), ("letter", 1, ("a", "b"), 4), ("done", 4, 3)])
        self.assertEqual(session.tell([("gone", 1)], False), 0)
        self.assertEqual(session.told(), [(1, 1), (2, 2)])
        self.assertIsNone(session.tell(session.answer(), True))
        self.assertEqual((session.told(), session.answer()), ([(2, 4)], [("done", 4, 3)]))

    def test_answer_in_its_order(self):
        folder = three().removed((1, 3)).appended(1, ("z",)).added((2,), "q").appended(2, ()).removed((4,)).appended(3, SIX)
        folder = folder.set_to((5,), ("w",))
        self.session.see(folder)
        rows = [("gone", 1), ("gone", 2), ("letter", 1, ("b", "q"), 7)]
        rows += [("come", 5, ("w",), 11), ("come", 6, SIX, 10), ("done", 11, 7)]
        self.assertEqual(self.session.answer(), rows)
        self.assertEqual(self.session.told(), [(1, 1), (2, 2), (3, 3)])
        self.assertIsNone(self.session.tell(tuple(rows), True))
        self.assertEqual(self.session.told(), [(2, 7), (5, 11), (6, 10)])

    def test_come(self):
        self.session.see(three().appended(1, ()).appended(2, ("a",)).removed((4,)).appended(3, ()).added((5,), "b"))
        for notice in (("come", 6, (), 7), ("come", 5, ("a",), 5), ("come", 5, ("a", "b"), 7), ("come", 4, (), 4),
                       ("come", 3, SIX, 3), ("come", 5, ("a",), 8)):
            self.assertEqual(self.session.tell([notice], True), 0)
        self.assertIsNone(self.session.tell([("come", 5, ("a", "b"), 8)], False))
        self.assertEqual(self.session.tell([("come", 5, ("a", "b"), 8)], False), 0)
        self.assertIsNone(self.session.tell([("come", 6, (), 7)], False))
        self.assertEqual(self.session.told(), [(1, 1), (2, 2), (3, 3), (5, 8), (6, 7)])

    def test_come_counts_from_the_letters_of_the_beginning(self):
        session = Session(three().removed((3,)))
        session.see(three().removed((3,)).appended(0, ()))
        self.assertIsNone(session.tell([("come", 4, (), 5)], False))

    def test_letter_that_came_and_was_told_gone_comes_no_more(self):
        folder = three().appended(1, ())
        self.session.see(folder)
        self.assertIsNone(self.session.tell([("come", 4, (), 4)], False))
        self.session.see(folder.removed((4,)).appended(1, ()))
        self.assertIsNone(self.session.tell([("gone", 4), ("come", 5, (), 6)], True))

    def test_letter(self):
        self.session.see(three().added((1, 2), "z").removed((3,)))
        for notice in (("letter", 1, (), 4), ("letter", 1, ("z",), 5), ("letter", 2, ("z",), 5), ("letter", 3, SIX, 3),
                       ("letter", 3, SIX, 6), ("letter", 4, (), 4)):
            self.assertEqual(self.session.tell([notice], True), 0)
        self.assertIsNone(self.session.tell([("letter", 2, ("b", "z"), 5)], False))
        # What is told already does not fit once more.
        self.assertEqual(self.session.tell([("letter", 2, ("b", "z"), 5)], False), 0)
        self.assertEqual(self.session.told(), [(1, 1), (2, 5), (3, 3)])

    def test_letter_that_did_not_change(self):
        self.assertEqual(self.session.tell([("letter", 1, (), 1)], True), 0)

    def test_gone(self):
        self.session.see(three().removed((1, 2)))
        self.assertEqual(self.session.tell([("gone", 3)], True), 0)
        self.assertEqual(self.session.tell([("gone", 2), ("gone", 2)], True), 1)
        self.assertEqual(self.session.tell([("gone", 1)], False), 0)
        self.assertIsNone(self.session.tell([("gone", 2), ("gone", 1)], True))
        self.assertEqual(self.session.told(), [(3, 3)])

    def test_done(self):
        folder = three().added((1,), "z").appended(0, ()).removed((2,))
        self.session.see(folder)
        done = ("done", 6, 5)
        rows = self.session.answer()
        self.assertEqual(rows[-1], done)
        # Each of the others must be told ahead of it.
        for at in range(len(rows) - 1):
            self.assertIsNotNone(Session(three()).tell([done], True))
            self.assertEqual(self.session.tell(rows[:at] + [done], True), at)
        self.assertEqual(self.session.tell(rows, False), 0)
        self.assertIsNone(self.session.tell(rows, True))
        for notice in (("done", 5, 5), ("done", 7, 5), ("done", 6, 4), ("done", 6, 6)):
            self.assertEqual(self.session.tell([notice], True), 0)
        self.assertIsNone(self.session.tell([done, done], True))
        self.assertEqual(self.session.tell([done], False), 0)

    def test_done_behind_another_one(self):
        # What was told ahead counts, too: otherwise the client could not apply all that it has heard.
        self.session.see(three().appended(1, ()).removed((4,)))
        self.assertIsNone(self.session.tell([("done", 5, 5)], True))
        self.session.see(three())
        self.assertEqual(self.session.tell([("done", 3, 4)], True), 0)

    def test_nothing_is_told_by_a_row_that_is_not_right(self):
        self.session.see(three().added((1,), "z").appended(0, ()).removed((2,)))
        rows = self.session.answer()
        for notices in (rows[:3] + [("gone", 9)], rows[:2] + [None], rows + [rows[0]], rows[:3] + ["done"]):
            self.assertEqual(self.session.tell(notices, True), len(notices) - 1)
            self.assertEqual(self.session.told(), [(1, 1), (2, 2), (3, 3)])
            self.assertEqual(self.session.answer(), rows)

    def test_objects_in_the_stead_of_notices(self):
        for value in objects() + [("come",), ("gone", True), ["gone", 1], ("done", 3), ("letter", 1, [], 4)]:
            self.assertEqual(self.session.tell([("done", 3, 4), value], True), 1)

    def test_empty_row(self):
        self.assertIsNone(self.session.tell([], False))
        self.assertIsNone(self.session.tell((), True))

    def test_lists_are_new(self):
        self.session.told().clear()
        self.session.answer().clear()
        self.assertEqual(self.session.told(), [(1, 1), (2, 2), (3, 3)])
        self.assertEqual(self.session.answer(), [("done", 3, 4)])
        notices = [("done", 3, 4)]
        self.session.tell(notices, True)
        self.assertEqual(notices, [("done", 3, 4)])

    def test_sessions_are_apart(self):
        other = Session(three())
        other.see(three().removed((1,)))
        other.tell([("gone", 1)], True)
        self.assertEqual(self.session.told(), [(1, 1), (2, 2), (3, 3)])


class Errors(unittest.TestCase):

    def test_folders(self):
        session = Session(three())
        for value in objects() + [Folder(5), Folder(1)]:
            if not isinstance(value, Folder):
                with self.assertRaises(BadFolder) as caught:
                    Session(value)
                self.assertIs(caught.exception.value, value)
            with self.assertRaises(BadFolder) as caught:
                session.see(value)
            self.assertIs(caught.exception.value, value)
        self.assertEqual(session.answer(), [("done", 3, 4)])

    def test_tell(self):
        session = Session(three())
        for value in objects():
            if not isinstance(value, (list, tuple)):
                self.assertEqual(raised(session.tell, value, None), ("BadNotice", -1))
            if not isinstance(value, bool):
                self.assertEqual(raised(session.tell, [None], value), ("BadValue", "is_ask"))
        self.assertRaises(BadNotice, session.tell, {}, True)
        self.assertRaises(BadValue, session.tell, [], 1)


class Facts(unittest.TestCase):

    def test_against_a_model(self):
        for seed in range(80):
            chance = random.Random(seed)
            folder = played(Folder(1), some_history(chance, 1, chance.randint(0, 9), names="ab"))
            session, model = Session(folder), Model(folder)
            for _ in range(25):
                if chance.random() < 0.5:
                    folder = played(folder, [some_deed(chance, folder, names="ab")])
                    session.see(folder)
                    model.folder = folder
                notices = [some_notice(chance, model) for _ in range(chance.randint(0, 3))]
                if chance.random() < 0.3:
                    notices = session.answer() + notices[:1]
                is_ask = chance.random() < 0.7
                self.assertEqual(session.tell(notices, is_ask), model.tell(notices, is_ask), (seed, notices))
                self.assertEqual(session.told(), model.told())

    def test_lists_have_what_was_told(self):
        for seed in range(60):
            chance = random.Random(seed)
            folder = played(Folder(1), some_history(chance, 1, 8, names="ab"))
            session, model, heard = Session(folder), Model(folder), []
            begin = entries_of(folder)
            for _ in range(12):
                folder = played(folder, [some_deed(chance, folder, names="ab")])
                session.see(folder)
                model.folder = folder
                notices = session.answer() if chance.random() < 0.4 else [some_notice(chance, model)]
                if session.tell(notices, True) is None:
                    model.tell(notices, True)
                    heard += notices
                rows = applied(begin, heard)
                self.assertEqual([(row[0], row[2]) for row in rows], session.told())
                if heard and heard[-1] == ("done", folder.mark(), folder.next_number()):
                    self.assertEqual(rows, entries_of(folder))

    def test_right_rows_that_end_with_done(self):
        for seed in range(60):
            chance = random.Random(seed)
            begin = played(Folder(1), some_history(chance, 1, 3, names="a"))
            end = begin
            for _ in range(3):
                end = played(end, [some_deed(chance, end, names="ab")])
            session = Session(begin)
            session.see(end)
            told = session.answer()
            if len(told) > 4:
                continue
            places = range(1, len(begin.letters()) + 1)
            pool = [("gone", place) for place in places] + [told[-1]]
            pool += [("come", *row) for row in entries_of(end)]
            pool += [("letter", place, *row[1:]) for place in places for row in entries_of(end)]
            for many in range(len(told) + 1):
                for row in itertools.product(pool, repeat=many):
                    trial = Session(begin)
                    trial.see(end)
                    if row and row[-1][0] == "done" and trial.tell(row, True) is None:
                        self.assertEqual(applied(entries_of(begin), row), entries_of(end))
                        self.assertGreaterEqual(len(row), len(told))
            self.assertIsNone(session.tell(told, True))
            self.assertEqual(applied(entries_of(begin), told), entries_of(end))


if __name__ == "__main__":
    unittest.main()
