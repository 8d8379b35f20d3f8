"""[3.1] to [3.7]: views, answers and spoilers: forms, errors, edges and facts."""

import copy
import random
import unittest

from mailtide.errors import BadDeed, BadFolder, BadNumber, BadRow, BadValue, TooLarge
from mailtide.folders import Folder
from mailtide.histories import played
from mailtide.since import (
    answer, answer_for, followed, is_answer, next_numbers, spoiler, spoils, view_at, view_of,
)
from tests.drawn import some_history
from tests.test_folders import SIX, three
from tests.wrong import is_numbers, is_signs, is_whole, objects, raised

# The folder of the document's example, and the history that leads to it.
HISTORY = [("append", 1, ()), ("add", (1,), "x"), ("take", (1,), "x"), ("append", 2, ()), ("add", (1,), "y")]
FOLDER = played(Folder(7), HISTORY)


def folder_of_marks(many, age=1):
    """A folder with so many marks."""
    return played(Folder(age), [("append", 1, ())] + [("set", (1,), (name,)) for name in ("ab" * many)[:many - 1]])


class Views(unittest.TestCase):

    def test_view_of(self):
        self.assertEqual(view_of(Folder(4)), (4, 0, ()))
        self.assertEqual(view_of(three()), (4, 3, ((1, 7, ()), (2, 0, ("b",)), (3, 9, SIX))))
        self.assertEqual(view_of(three().removed((2,)).trimmed(4)), (4, 4, ((1, 7, ()), (3, 9, SIX))))
        # No limit of marks is told of this.
        self.assertEqual(view_of(folder_of_marks(90))[:2], (1, 90))

    def test_view_of_raises(self):
        for value in objects():
            if not isinstance(value, Folder):
                with self.assertRaises(BadFolder) as caught:
                    view_of(value)
                self.assertIs(caught.exception.value, value)

    def test_view_at(self):
        views = [view_at(7, HISTORY, mark) for mark in range(6)]
        self.assertEqual(views, [
            (7, 0, ()), (7, 1, ((1, 1, ()),)), (7, 2, ((1, 1, ("x",)),)), (7, 3, ((1, 1, ()),)),
            (7, 4, ((1, 1, ()), (2, 2, ()))), (7, 5, ((1, 1, ("y",)), (2, 2, ()))),
        ])

    def test_view_in_the_midst_of_a_deed(self):
        history = (
            ("append", 1, ()), ("append", 2, ("a",)), ("append", 3, ()), ("append", 4, SIX),
            ("add", [4, 3, 2, 1, 3, 9], "a"), ("trim", 5), ("set", (3, 2, 1), ("q",)), ("remove", [4, 2, 2, 1]),
            ("take", (3,), "z"),
        )
        rows = [(1, 1, ()), (2, 2, ("a",)), (3, 3, ()), (4, 4, SIX)]
        self.assertEqual(view_at(1, history, 4), (1, 4, tuple(rows)))
        rows[0] = (1, 1, ("a",))
        self.assertEqual(view_at(1, history, 5), (1, 5, tuple(rows)))
        rows[2] = (3, 3, ("a",))
        self.assertEqual(view_at(1, history, 6), (1, 6, tuple(rows)))
        for mark in (7, 8, 9):
            rows[mark - 7] = (mark - 6, mark - 6, ("q",))
            self.assertEqual(view_at(1, history, mark), (1, mark, tuple(rows)))
        self.assertEqual(view_at(1, history, 10), (1, 10, tuple(rows[1:])))
        self.assertEqual(view_at(1, history, 11), (1, 11, tuple(rows[2:])))
        self.assertEqual(view_at(1, history, 12), (1, 12, (rows[2],)))
        self.assertEqual(raised(view_at, 1, history, 13), ("BadValue", "mark"))

    def test_view_at_against_single_changes(self):
        for seed in range(40):
            chance = random.Random(seed)
            history = some_history(chance, 3, 25)
            folder, views = Folder(3), [view_of(Folder(3))]
            for deed in history:
                parts = [deed]
                if deed[0] not in ("append", "trim"):
                    parts = [(deed[0], (number,), *deed[2:]) for number in sorted(set(deed[1]))]
                for part in parts:
                    later = played(folder, [part])
                    if later.mark() > folder.mark():
                        views.append(view_of(later))
                    folder = later
            self.assertEqual([view_at(3, history, mark) for mark in range(len(views))], views)
            self.assertEqual(raised(view_at, 3, history, len(views)), ("BadValue", "mark"))

    def test_view_at_raises(self):
        for value in objects() + [0, -1]:
            if not is_whole(value, 1):
                self.assertEqual(raised(view_at, value, None, None)[0], "BadNumber")
            if not isinstance(value, (list, tuple)):
                self.assertEqual(raised(view_at, 7, value, None), ("BadDeed", -1))
            if not (is_whole(value, 0) and value <= 5):
                self.assertEqual(raised(view_at, 7, HISTORY, value), ("BadValue", "mark"))
        self.assertEqual(raised(view_at, 0, [None], -1), ("BadNumber", 0))
        self.assertEqual(raised(view_at, 1, [*HISTORY, ("trim", 6)], -1), ("BadDeed", 5))
        self.assertEqual(raised(view_at, 1, [*HISTORY, None], 0), ("BadDeed", 5))
        self.assertRaises(BadNumber, view_at, True, [], 0)
        self.assertRaises(BadDeed, view_at, 1, {}, 0)


class Followed(unittest.TestCase):

    VIEW = (4, 3, ((1, 7, ()), (2, 0, ("b",)), (5, 9, SIX)))

    def test_nothing(self):
        self.assertEqual(followed(self.VIEW, (3, 3, (), ())), self.VIEW)
        self.assertEqual(followed(self.VIEW, (3, 9, (), ())), (4, 9, self.VIEW[2]))
        self.assertEqual(followed((1, 0, ()), (0, 2, (), ())), (1, 2, ()))

    def test_gone(self):
        self.assertEqual(followed(self.VIEW, (3, 6, (), (1, 3, 5, 99))), (4, 6, ((2, 0, ("b",)),)))

    def test_changed(self):
        changed = ((2, None, ("q",)), (3, 8, ("z",)), (5, 1, ()), (7, 0, ()))
        rows = ((1, 7, ()), (2, 0, ("q",)), (3, 8, ("z",)), (5, 1, ()), (7, 0, ()))
        self.assertEqual(followed(self.VIEW, (3, 8, changed, ())), (4, 8, rows))

    def test_gone_goes_ahead_of_changed(self):
        self.assertEqual(followed(self.VIEW, (3, 4, ((2, 6, ()),), (1, 2))), (4, 4, ((2, 6, ()), (5, 9, SIX))))
        self.assertEqual(raised(followed, self.VIEW, (3, 4, ((2, None, ()),), (1, 2))), ("BadRow", 0))

    def test_rows_that_are_not_there(self):
        changed = ((1, None, ()), (2, 4, ()), (3, None, ()), (4, None, ()))
        self.assertEqual(raised(followed, self.VIEW, (3, 4, changed, ())), ("BadRow", 2))
        self.assertRaises(BadRow, followed, self.VIEW, (3, 4, changed[3:], ()))

    def test_marks_are_unlike(self):
        for mark in (0, 2, 4):
            self.assertEqual(raised(followed, self.VIEW, (mark, 9, ((3, None, ()),), ())), ("BadValue", "mark"))
        # That now is less than the mark is nothing that an answer may not be.
        self.assertEqual(followed(self.VIEW, (3, 1, (), (1,))), (4, 1, self.VIEW[2][1:]))

    def test_no_view(self):
        row = self.VIEW[2][0]
        wrong = objects() + [
            (), (4, 3), (4, 3, (), ()), [4, 3, ()], (0, 3, ()), (4, -1, ()), (True, 3, ()), (4, False, ()), (4, 3, []),
            (4, 3, ((),)), (4, 3, (row[:2],)), (4, 3, (row + (1,),)), (4, 3, (list(row),)), (4, 3, row), (4, 3, (row, row)),
            (4, 3, (self.VIEW[2][1], row)), (4, 3, ((1, None, ()),)), (4, 3, ((0, 1, ()),)), (4, 3, ((True, 1, ()),)),
            (4, 3, ((1, -1, ()),)), (4, 3, ((1, True, ()),)), (4, 3, ((1, 1, ["a"]),)), (4, 3, ((1, 1, ("b", "a")),)),
            (4, 3, ((1, 1, (*SIX, "g")),)), (4, 3, None), (4, None, ()), (None, 3, ()),
        ]
        for value in wrong:
            self.assertEqual(raised(followed, value, None), ("BadValue", "view"), value)
        self.assertEqual(followed((9, 10 ** 30 - 1, ()), (10 ** 30 - 1, 0, (), ())), (9, 0, ()))

    def test_no_answer(self):
        row = (1, None, ())
        wrong = objects() + [
            (), (3, 3, ()), (3, 3, (), (), ()), [3, 3, (), ()], (-1, 3, (), ()), (True, 3, (), ()), (3, -1, (), ()),
            (3, None, (), ()), (3, True, (), ()), (3, 3, [], ()), (3, 3, (), []), (3, 3, (), (0,)), (3, 3, (), (True,)),
            (3, 3, (), (2, 1)), (3, 3, (), (2, 2)), (3, 3, (), ("2",)), (3, 3, (list(row),), ()), (3, 3, (row, row), ()),
            (3, 3, ((2, 1, ()), row), ()), (3, 3, ((0, 1, ()),), ()), (3, 3, ((1, False, ()),), ()), (3, 3, ((1, -1, ()),), ()),
            (3, 3, ((1, "", ()),), ()), (3, 3, ((1, 1, ("A",)),), ()), (3, 3, ((1, 1, None),), ()), (3, 3, row, ()),
            (3, 3, (row + (1,),), ()), (3, 3, (row[:2],), ()), (3, 3, None, ()), (3, 3, (), None), ("3", 3, (), ()),
        ]
        for value in wrong:
            self.assertEqual(raised(followed, self.VIEW, value), ("BadValue", "answer"), value)

    def test_kinds_of_values(self):
        view = followed(self.VIEW, (3, 4, ((2, None, ()),), ()))
        self.assertEqual([type(view), type(view[2]), type(view[2][1])], [tuple] * 3)


class Places(unittest.TestCase):
    """What all functions with a folder and a mark raise, and in which order."""

    def calls(self):
        return [
            lambda folder, mark: next_numbers(folder, mark), lambda folder, mark: answer(folder, mark),
            lambda folder, mark: answer_for(folder, mark, None), lambda folder, mark: is_answer(folder, mark, None),
            lambda folder, mark: spoiler(folder, mark, None), lambda folder, mark: spoils(folder, mark, None, None),
        ]

    def test_folder(self):
        for call in self.calls():
            for value in objects():
                if not isinstance(value, Folder):
                    with self.assertRaises(BadFolder) as caught:
                        call(value, None)
                    self.assertIs(caught.exception.value, value)

    def test_too_many_marks(self):
        for call in self.calls():
            for many in (41, 42, 80):
                self.assertEqual(raised(call, folder_of_marks(many), None), ("TooLarge", 40))
            self.assertRaises(TooLarge, call, folder_of_marks(41), 0)
            self.assertEqual(raised(call, folder_of_marks(40), 41), ("BadValue", "mark"))
        self.assertEqual(next_numbers(folder_of_marks(40), 40), [2])

    def test_mark(self):
        for call in self.calls():
            for value in objects() + [6, 10 ** 30, -1]:
                if not (is_whole(value, 0) and value <= 5):
                    self.assertEqual(raised(call, FOLDER, value), ("BadValue", "mark"))
            self.assertEqual(raised(call, Folder(1), 1), ("BadValue", "mark"))

    def test_numbers(self):
        for value in objects() + [[2, 1], (1, 1), [True], (0,), {1}, "1", [1, None]]:
            if not is_numbers(value) or list(value) != sorted(set(value)):
                self.assertEqual(raised(answer_for, FOLDER, 2, value), ("BadValue", "numbers"))
        for value in ((), (2,), (1, 3), [1, 2, 3], (3,), (10 ** 29,)):
            self.assertEqual(raised(answer_for, FOLDER, 2, value), ("BadValue", "numbers"))
        self.assertEqual(raised(answer_for, FOLDER, 6, ()), ("BadValue", "mark"))
        self.assertRaises(BadValue, answer_for, FOLDER, 5, (1,))


class Answers(unittest.TestCase):

    def test_example(self):
        self.assertEqual(FOLDER, Folder(7).appended(1, ()).added((1,), "x").taken((1,), "x").appended(2, ()).added((1,), "y"))
        self.assertEqual(next_numbers(FOLDER, 2), [2, 3])
        self.assertEqual(answer(FOLDER, 2), (2, 5, ((1, None, ("y",)), (2, 2, ())), ()))
        gone = FOLDER.removed((2,))
        for folder in (gone, gone.trimmed(3), gone.trimmed(6)):
            self.assertEqual(answer(folder, 2), (2, 6, ((1, None, ("y",)),), (2,)))

    def test_answer_for(self):
        self.assertEqual(answer_for(FOLDER, 2, [1]), (2, 5, ((1, None, ("y",)), (2, 2, ())), ()))
        self.assertEqual(answer_for(FOLDER, 2, (1, 2)), (2, 5, ((1, None, ("y",)), (2, None, ())), ()))
        gone = FOLDER.removed((2,))
        self.assertEqual(answer_for(gone, 2, (1,)), (2, 6, ((1, None, ("y",)),), ()))
        self.assertEqual(answer_for(gone, 2, [1, 2]), (2, 6, ((1, None, ("y",)),), (2,)))

    def test_mark_of_the_beginning(self):
        for folder in (Folder(1), three(), FOLDER, three().removed((1, 3)), three().removed((1, 2, 3)).trimmed(6)):
            rows = view_of(folder)[2]
            self.assertEqual(answer(folder, 0), (0, folder.mark(), rows, ()))
            self.assertEqual(answer_for(folder, 0, []), (0, folder.mark(), rows, ()))
            self.assertEqual(next_numbers(folder, 0), [1])

    def test_mark_of_the_end(self):
        for folder in (Folder(1), three(), FOLDER, three().removed((1, 3)), three().removed((1, 2, 3)).trimmed(6)):
            mark = folder.mark()
            self.assertEqual(answer(folder, mark), (mark, mark, (), ()))
            numbers = [letter[0] for letter in folder.letters()]
            self.assertEqual(answer_for(folder, mark, numbers), (mark, mark, (), ()))
            self.assertEqual(raised(answer_for, folder, mark, [*numbers, 77]), ("BadValue", "numbers"))
            self.assertEqual(next_numbers(folder, mark), [folder.next_number()])

    def test_which_lost_letter_can_have_stayed(self):
        # Marks 1 to 4 are two letters that came and went. The third one took mark 5.
        folder = Folder(1).appended(0, ()).appended(0, ()).removed((1, 2)).appended(0, ()).trimmed(4)
        self.assertEqual([answer(folder, mark)[3] for mark in range(6)], [(), (1,), (1, 2), (1, 2), (), ()])
        self.assertEqual([next_numbers(folder, mark) for mark in range(6)], [[1], [2], [2, 3], [3], [3], [4]])
        self.assertEqual(raised(answer_for, folder, 3, ()), ("BadValue", "numbers"))
        for numbers in ((1,), (2,)):
            self.assertEqual(answer_for(folder, 3, numbers), (3, 5, ((3, 0, ()),), numbers))
        self.assertEqual(answer_for(folder, 2, ()), (2, 5, ((3, 0, ()),), ()))
        self.assertEqual(answer_for(folder, 2, (1, 2)), (2, 5, ((3, 0, ()),), (1, 2)))
        for numbers in ((1,), (2,), (1, 2, 3), (3,), (2, 1), [1, 1]):
            self.assertEqual(raised(answer_for, folder, 2, numbers), ("BadValue", "numbers"))
        self.assertEqual(answer_for(folder, 1, [1]), (1, 5, ((3, 0, ()),), (1,)))
        for numbers in ((), (2,), (1, 2)):
            self.assertEqual(raised(answer_for, folder, 1, numbers), ("BadValue", "numbers"))

    def test_spoilers_by_each_lost_letter(self):
        folder = Folder(1).appended(0, ()).appended(0, ()).removed((1, 2)).appended(0, ()).trimmed(4)
        for mark, gone in ((1, (1,)), (2, (1, 2)), (3, (1, 2))):
            for number in gone:
                value = (mark, 5, ((3, 0, ()),), tuple(other for other in gone if other != number))
                history = spoiler(folder, mark, value)
                self.assertTrue(spoils(folder, mark, value, history), (mark, number, history))
                self.assertIn(number, [row[0] for row in view_at(1, history, mark)[2]])
            for value in objects():
                self.assertTrue(spoils(folder, mark, value, spoiler(folder, mark, value)))

    def test_a_lost_letter_that_must_have_gone_first(self):
        # Letter 2 took mark 4 when it came, or was changed; letter 1 was there first, and went by mark 3, or then.
        folder = Folder(1).appended(0, ()).added((1,), "a").removed((1,)).appended(0, ("b",)).trimmed(3)
        self.assertEqual([next_numbers(folder, mark) for mark in range(5)], [[1], [2], [2, 3], [2, 3], [3]])
        self.assertEqual([answer(folder, mark)[3] for mark in range(5)], [(), (1,), (1,), (), ()])
        self.assertEqual(answer(folder, 3)[2], ((2, 0, ("b",)),))

    def test_twenty_to_forty_marks(self):
        folder = Folder(1)
        for _ in range(20):
            folder = folder.appended(3, ())
        full = folder.removed(list(range(1, 21)))
        for folder in (full, full.trimmed(20), full.trimmed(40)):
            self.assertEqual(next_numbers(folder, 20), [21] if folder.cut() < 40 else list(range(11, 22)))
            self.assertEqual(answer(folder, 20), (20, 40, (), tuple(range(1, 21))))
        self.assertEqual(answer(full.trimmed(40), 39), (39, 40, (), tuple(range(1, 21))))
        self.assertEqual(answer_for(full.trimmed(40), 39, (7,)), (39, 40, (), (7,)))

    def test_lists_are_new(self):
        next_numbers(FOLDER, 2).append(9)
        self.assertEqual(next_numbers(FOLDER, 2), [2, 3])
        history = spoiler(FOLDER, 2, None)
        self.assertIs(type(history), list)
        history.clear()
        self.assertNotEqual(spoiler(FOLDER, 2, None), [])

    def test_arguments_stay(self):
        numbers, history = [1, 2], copy.deepcopy(HISTORY)
        answer_for(FOLDER, 2, numbers)
        spoils(FOLDER, 2, None, history)
        view_at(7, history, 3)
        self.assertEqual((numbers, history), ([1, 2], HISTORY))


class RightAnswers(unittest.TestCase):

    RIGHT = (2, 5, ((1, None, ("y",)), (2, 2, ())), ())

    def test_right(self):
        full = ((1, 1, ("y",)), (2, 2, ()))
        for value in (self.RIGHT, (2, 5, full, ()), (2, 5, full, (8,)), (2, 5, full, (1, 2, 3)), (2, 5, self.RIGHT[2], (2, 9))):
            self.assertIs(is_answer(FOLDER, 2, value), True)
            self.assertIsNone(spoiler(FOLDER, 2, value))
            self.assertIs(spoils(FOLDER, 2, value, HISTORY), False)

    def test_wrong(self):
        changed = self.RIGHT[2]
        wrong = [
            (1, 5, changed, ()), (2, 4, changed, ()), (2, 6, changed, ()), (3, 5, changed, ()), (2, 5, changed[1:], ()),
            (2, 5, changed[:1], ()), (2, 5, (), ()), (2, 5, changed, (1,)), (2, 5, (changed[0], (2, None, ())), ()),
            (2, 5, (changed[0], (2, 3, ())), ()), (2, 5, (changed[0], (2, 2, ("x",))), ()),
            (2, 5, ((1, None, ()), changed[1]), ()), (2, 5, ((1, 2, ("y",)), changed[1]), ()),
            (2, 5, (*changed, (3, 1, ())), ()), (2, 5, (*changed, (3, None, ())), ()),
            (2, 5, list(changed), ()), [2, 5, changed, ()], (2, 5, changed), (True, 5, changed, ()), (2, 5, changed, (True,)),
        ]
        for value in wrong + objects():
            self.assertIs(is_answer(FOLDER, 2, value), False, value)
            history = spoiler(FOLDER, 2, value)
            self.assertIs(spoils(FOLDER, 2, value, history), True, (value, history))
            self.assertEqual(played(Folder(7), history), FOLDER)

    def test_letters_that_did_not_change(self):
        for changed in (((1, None, ()),), ((1, 7, ()), (3, None, SIX)), ((2, 0, ("b",)),)):
            self.assertTrue(is_answer(three(), 3, (3, 3, changed, ())))
        self.assertTrue(is_answer(three(), 3, (3, 3, ((1, 7, ()),), (1, 4))))
        for changed, gone in ((((1, None, ()),), (1,)), ((), (1,)), (((1, 8, ()),), ()), (((1, None, ("a",)),), ())):
            value = (3, 3, changed, gone)
            self.assertFalse(is_answer(three(), 3, value))
            self.assertTrue(spoils(three(), 3, value, spoiler(three(), 3, value)))

    def test_histories_that_spoil_nothing(self):
        value = (2, 5, self.RIGHT[2][:1], ())
        self.assertTrue(spoils(FOLDER, 2, value, HISTORY))
        self.assertTrue(spoils(FOLDER, 2, value, tuple(HISTORY)))
        others = [
            HISTORY[:4], HISTORY + [("append", 1, ())], HISTORY + [("trim", 1)], [("append", 2, ()), *HISTORY[1:]],
            HISTORY + [None], [("trim", 1), *HISTORY], [], (), [HISTORY],
        ]
        for history in others + objects():
            self.assertIs(spoils(FOLDER, 2, value, history), False, history)
            self.assertIs(spoils(FOLDER, 2, None, history), False, history)

    def test_a_history_that_shows_it_and_one_that_does_not(self):
        early = [("append", 1, ()), ("append", 2, ("x",)), ("add", (1,), "x"), ("set", (2,), ()), ("set", (1,), ("y",))]
        self.assertEqual(played(Folder(7), early), FOLDER)
        value = (2, 5, ((1, None, ("y",)), (2, None, ())), ())
        self.assertTrue(spoils(FOLDER, 2, value, HISTORY))
        self.assertFalse(spoils(FOLDER, 2, value, early))
        self.assertTrue(spoils(FOLDER, 2, value, spoiler(FOLDER, 2, value)))
        gone, tail = FOLDER.removed((2,)), [("remove", (2,))]
        value = (2, 6, ((1, None, ("y",)),), ())
        self.assertFalse(spoils(gone, 2, value, HISTORY + tail))
        self.assertTrue(spoils(gone, 2, value, early + tail))
        self.assertTrue(spoils(gone, 2, value, spoiler(gone, 2, value)))

    def test_trimmed_folders(self):
        folder = FOLDER.removed((2,)).trimmed(6)
        value = (2, 6, ((1, None, ("y",)),), ())
        history = spoiler(folder, 2, value)
        self.assertEqual(played(Folder(7), history), folder)
        self.assertTrue(spoils(folder, 2, value, history))
        self.assertFalse(spoils(folder, 2, value, HISTORY + [("remove", (2,)), ("trim", 5)]))


class Facts(unittest.TestCase):

    def drawn(self, seed):
        """A history of up to forty marks, and the folders behind its deeds."""
        chance = random.Random(seed)
        history = some_history(chance, 5, chance.randint(1, 38), chance.random() < 0.5, "abc")
        folders = [Folder(5)]
        for deed in history:
            later = played(folders[-1], [deed])
            if later.mark() > 40:
                break
            folders.append(later)
        return chance, history[:len(folders) - 1], folders

    def test_answers_lead_to_the_folder(self):
        for seed in range(60):
            chance, history, folders = self.drawn(seed)
            folder = folders[-1]
            for mark in sorted({0, folder.mark(), *[chance.randint(0, folder.mark()) for _ in range(3)]}):
                view = view_at(5, history, mark)
                told = answer(folder, mark)
                self.assertEqual(followed(view, told), view_of(folder))
                self.assertTrue(is_answer(folder, mark, told))
                self.assertIsNone(spoiler(folder, mark, told))
                numbers = [row[0] for row in view[2]]
                near = answer_for(folder, mark, numbers)
                self.assertEqual(followed(view, near), view_of(folder))
                self.assertLessEqual(set(near[3]), set(told[3]))
                self.assertLessEqual({row for row in near[2] if row[1] is not None}, set(told[2]))
                self.assertEqual([row[0] for row in near[2]], [row[0] for row in told[2]])

    def test_next_number_is_among_all(self):
        for seed in range(60):
            _, history, folders = self.drawn(seed)
            for folder in folders[:-1]:
                self.assertIn(folder.next_number(), next_numbers(folders[-1], folder.mark()))

    def test_answers_one_behind_the_other(self):
        for seed in range(60):
            chance, history, folders = self.drawn(seed)
            at = chance.randrange(len(folders))
            middle, end = folders[at], folders[-1]
            mark = chance.randint(0, middle.mark())
            view = view_at(5, history, mark)
            twice = followed(followed(view, answer(middle, mark)), answer(end, middle.mark()))
            self.assertEqual(twice, followed(view, answer(end, mark)))

    def test_trimming_never_shortens_an_answer(self):
        for seed in range(40):
            chance, _, folders = self.drawn(seed)
            folder = folders[-1]
            mark = chance.randint(0, folder.mark())
            told = answer(folder, mark)
            for cut in sorted(chance.sample(range(folder.mark() + 1), min(4, folder.mark() + 1))):
                more = answer(folder.trimmed(cut), mark)
                self.assertLessEqual(set(told[3]), set(more[3]))
                for row, other in zip(told[2], more[2]):
                    self.assertIn(other, [row, (row[0], dict((r[0], r[1]) for r in view_of(folder)[2])[row[0]], row[2])])
                told = more

    def test_spoilers_of_drawn_folders(self):
        for seed in range(60):
            chance, _, folders = self.drawn(seed)
            folder = folders[-1]
            mark = chance.randint(0, folder.mark())
            told = answer(folder, mark)
            values = [(mark, folder.mark(), told[2][:at] + told[2][at + 1:], told[3]) for at in range(len(told[2]))]
            values += [told[:3] + (told[3][:at] + told[3][at + 1:],) for at in range(len(told[3]))]
            for at, row in enumerate(told[2]):
                if row[1] is not None:
                    values.append(told[:2] + (told[2][:at] + ((row[0], None, row[2]),) + told[2][at + 1:], told[3]))
            for value in values:
                self.assertFalse(is_answer(folder, mark, value))
                history = spoiler(folder, mark, value)
                self.assertTrue(spoils(folder, mark, value, history), (seed, value))


if __name__ == "__main__":
    unittest.main()
