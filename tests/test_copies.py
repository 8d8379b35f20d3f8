"""[6.1] and [6.2]: copies, their deeds without a line, and steps."""

import copy
import random
import unittest

from mailtide.copies import Copy, copy_of, end_of, ends, least_row, order_for, run, stepped
from mailtide.errors import BadCopy, BadFolder, BadNumber, BadRow, BadSigns, BadValue, TooLarge
from mailtide.folders import Folder
from mailtide.histories import played
from tests.drawn import some_deed, some_history, some_signs
from tests.test_folders import SIX, state, three
from tests.wrong import is_signs, is_whole, objects, raised

ROWS = [(1, 7, (), ()), (2, 0, ("b",), None), (5, 9, SIX, ("a",))]


def told(copied):
    """All that a copy tells."""
    return (copied.age(), copied.mark(), copied.letters(), copied.made())


def some_copy(chance, folder, made=True, names="abc"):
    """A copy of a folder, with some deeds without a line."""
    copied = copy_of(folder)
    for _ in range(chance.choice((0, 0, 1, 1, 2, 3))):
        numbers = [letter[0] for letter in copied.letters()]
        word = chance.choice(("make", "drop", "want", "want", "want"))
        if word == "make":
            if made:
                copied = copied.making(3, some_signs(chance, names))
        elif numbers and word == "drop":
            copied = copied.dropping(chance.choice(numbers))
        elif numbers:
            copied = copied.wanting(chance.choice(numbers), some_signs(chance, names))
    return copied


def some_copies(chance, most, made=True):
    """A folder, and copies that were taken of it by and by."""
    folder = played(Folder(1), some_history(chance, 1, chance.randint(0, 4), names="abc"))
    copies = []
    for _ in range(chance.randint(0, most)):
        copies.append(some_copy(chance, folder, made))
        if chance.random() < 0.4:
            folder = played(folder, [some_deed(chance, folder, names="abc")])
    chance.shuffle(copies)
    return copies, folder


class Values(unittest.TestCase):

    def test_fields(self):
        self.assertEqual(told(Copy(3, 9, ROWS, [(4, ("z",)), (0, ())])), (3, 9, ROWS, [(4, ("z",)), (0, ())]))
        self.assertEqual(told(Copy(3, 0, ())), (3, 0, [], []))
        self.assertEqual(told(Copy(10 ** 30 - 1, 10 ** 30 - 1, tuple(ROWS), ())), (10 ** 30 - 1, 10 ** 30 - 1, ROWS, []))

    def test_methods_stand_in_the_class(self):
        for name in "age mark letters made wanting dropping making".split():
            self.assertIn(name, vars(Copy))

    def test_equal(self):
        self.assertEqual(Copy(3, 9, ROWS), Copy(3, 9, tuple(ROWS), []))
        self.assertFalse(Copy(3, 9, ROWS) != Copy(3, 9, ROWS, ()))
        self.assertEqual(copy_of(three()), copy_of(three()))

    def test_each_part_counts(self):
        base = Copy(3, 9, ROWS, [(4, ())])
        others = [
            Copy(4, 9, ROWS, [(4, ())]), Copy(3, 8, ROWS, [(4, ())]), Copy(3, 9, ROWS[1:], [(4, ())]), Copy(3, 9, ROWS),
            Copy(3, 9, ROWS, [(4, ())] * 2), Copy(3, 9, ROWS, [(5, ())]), Copy(3, 9, ROWS, [(4, ("a",))]),
            Copy(3, 9, [(1, 8, (), ())] + ROWS[1:], [(4, ())]), Copy(3, 9, [(1, 7, ("a",), ())] + ROWS[1:], [(4, ())]),
            Copy(3, 9, [(1, 7, (), ("a",))] + ROWS[1:], [(4, ())]), Copy(3, 9, [(1, 7, (), None)] + ROWS[1:], [(4, ())]),
        ]
        for other in others:
            self.assertNotEqual(base, other)
            self.assertFalse(base == other)

    def test_nothing_else(self):
        class Any:
            def __eq__(self, other):
                return True

        base = copy_of(Folder(1))
        others = [value for value in objects() if not isinstance(value, Copy)]
        for value in others + [(1, 0, [], []), Any(), Folder(1)]:
            self.assertFalse(base == value)
            self.assertTrue(base != value)

    def test_lists_that_were_handed_in_or_out(self):
        rows, made = list(ROWS), [(4, ())]
        base = Copy(3, 9, rows, made)
        rows.pop()
        made.append((5, ()))
        self.assertEqual(told(base), (3, 9, ROWS, [(4, ())]))
        base.letters().clear()
        base.made().append((9, ()))
        self.assertEqual(told(base), (3, 9, ROWS, [(4, ())]))
        self.assertIs(type(base.letters()), list)
        self.assertIs(type(base.made()), list)

    def test_copy_of(self):
        self.assertEqual(told(copy_of(Folder(6))), (6, 0, [], []))
        folder = three().removed((2,))
        self.assertEqual(told(copy_of(folder)), (4, 4, [(1, 7, (), ()), (3, 9, SIX, SIX)], []))

    def test_deeds_without_a_line(self):
        base = Copy(3, 9, ROWS, [(4, ())])
        self.assertEqual(told(base.wanting(1, ("q",))), (3, 9, [(1, 7, (), ("q",))] + ROWS[1:], [(4, ())]))
        self.assertEqual(base.wanting(1, ()), base)
        # Also of a letter that was to go.
        self.assertEqual(base.wanting(2, ()).letters()[1], (2, 0, ("b",), ()))
        self.assertEqual(base.dropping(5).letters()[2], (5, 9, SIX, None))
        self.assertEqual(base.dropping(2), base)
        self.assertEqual(base.making(0, SIX).made(), [(4, ()), (0, SIX)])
        self.assertEqual(base.making(0, SIX).letters(), ROWS)
        self.assertEqual(told(base), (3, 9, ROWS, [(4, ())]))

    def test_only_what_is_wanted_at_last_counts(self):
        base = copy_of(three())
        self.assertEqual(base.wanting(1, ("q",)).dropping(1).wanting(1, ()), base)
        self.assertEqual(base.wanting(1, ("q",)).wanting(1, ("r",)), base.wanting(1, ("r",)))


class WrongFields(unittest.TestCase):

    def assert_field(self, value, *arguments):
        with self.assertRaises(BadCopy) as caught:
            Copy(*arguments)
        self.assertIs(caught.exception.value, value)

    def test_age_and_mark(self):
        for value in objects() + [0, -1]:
            if not is_whole(value, 1):
                self.assert_field(value, value, None, None, None)
            if not is_whole(value, 0):
                self.assert_field(value, 3, value, None, None)

    def test_letters(self):
        row = ROWS[0]
        wrong = [value for value in objects() if value not in ([], ())]
        wrong += [[value] for value in objects()]
        wrong += [
            [list(row)], row, [row[:3]], [row + (1,)], [row, row], ROWS[::-1], [(0, 7, (), ())], [(True, 7, (), ())],
            [(1, -1, (), ())], [(1, None, (), ())], [(1, True, (), ())], [(1, 7, None, ())], [(1, 7, ["a"], ())],
            [(1, 7, ("b", "a"), ())], [(1, 7, (), [])], [(1, 7, (), ("A",))], [(1, 7, (), False)], [(1, 7, (), 0)],
            [("1", 7, (), ())], [(1, 7, (*SIX, "g"), ())], {1: row}, iter([row]),
        ]
        for value in wrong:
            self.assert_field(value, 3, 9, value, None)

    def test_made(self):
        wrong = [value for value in objects() if value not in ([], ())]
        wrong += [[value] for value in objects()]
        wrong += [[(4,)], [(4, (), 1)], [[4, ()]], [(-1, ())], [(True, ())], [(4, ["a"])], [(4, ("b", "a"))], (4, ()), [(None, ())]]
        for value in wrong:
            self.assert_field(value, 3, 9, ROWS, value)

    def test_first_one_decides(self):
        self.assert_field(0, 0, -1, 5, 6)
        self.assert_field(-1, 1, -1, 5, 6)
        self.assert_field(5, 1, 0, 5, 6)
        self.assert_field(6, 1, 0, [], 6)

    def test_deeds(self):
        base = Copy(3, 9, ROWS)
        for value in objects() + [3, 4, 0, 10 ** 30]:
            if not (is_whole(value, 1) and value in (1, 2, 5)):
                for call in (lambda number: base.wanting(number, None), base.dropping):
                    with self.assertRaises(BadNumber) as caught:
                        call(value)
                    self.assertIs(caught.exception.value, value)
            if not is_signs(value):
                for call in (lambda signs: base.wanting(1, signs), lambda signs: base.making(1, signs)):
                    with self.assertRaises(BadSigns) as caught:
                        call(value)
                    self.assertIs(caught.exception.value, value)
            if not is_whole(value, 0):
                self.assertEqual(raised(base.making, value, None), ("BadValue", "body"))
        self.assertEqual(told(base), (3, 9, ROWS, []))


class Steps(unittest.TestCase):

    def setUp(self):
        self.folder = Folder(4).appended(7, ("a", "b")).appended(0, ("b",)).appended(9, ())
        self.copy = copy_of(self.folder)

    def step(self, copied, folder, sent, lost):
        """The folder behind a step, which sends and loses just this."""
        end, later, deeds, numbers = stepped(copied, folder)
        self.assertEqual((deeds, numbers), (tuple(sent), tuple(lost)))
        self.assertEqual(later, played(folder, list(sent)))
        self.assertEqual(end, copy_of(later))
        self.assertEqual(stepped(end, later), (end, later, (), ()))
        return later

    def test_example(self):
        folder = Folder(1).appended(0, ("a",)).appended(1, ())
        two = copy_of(folder).wanting(1, ("c",))
        self.assertEqual(stepped(two, folder)[2], (("add", (1,), "c"), ("take", (1,), "a")))

    def test_in_step(self):
        self.assertEqual(stepped(self.copy, self.folder), (self.copy, self.folder, (), ()))
        later = self.folder.appended(1, ())
        self.assertEqual(stepped(self.copy, later), (copy_of(later), later, (), ()))

    def test_order_of_the_deeds(self):
        copied = self.copy.making(5, ("m",)).dropping(2).wanting(3, ("x", "z")).wanting(1, ("c", "d")).making(4, ())
        sent = [
            ("add", (1,), "c"), ("add", (1,), "d"), ("take", (1,), "a"), ("take", (1,), "b"), ("add", (3,), "x"),
            ("add", (3,), "z"), ("remove", (2,)), ("append", 5, ("m",)), ("append", 4, ()),
        ]
        later = self.step(copied, self.folder, sent, [])
        self.assertEqual([letter[:3] for letter in later.letters()], [
            (1, 7, ("c", "d")), (3, 9, ("x", "z")), (4, 5, ("m",)), (5, 4, ())])

    def test_letters_that_others_changed(self):
        copied = self.copy.wanting(1, ("b", "c")).wanting(2, ("b", "d"))
        later = self.folder.set_to((1,), ("c", "q")).taken((2,), "b").added((3,), "r")
        # Others gave c to letter 1, and took a and b from it; b of letter 2 was not changed by the copy.
        folder = self.step(copied, later, [("add", (2,), "d")], [])
        self.assertEqual([letter[2] for letter in folder.letters()], [("c", "q"), ("d",), ("r",)])
        folder = self.step(copied, self.folder.added((1,), "q"), [
            ("add", (1,), "c"), ("take", (1,), "a"), ("add", (2,), "d")], [])
        self.assertEqual(folder.letters()[0][2], ("b", "c", "q"))

    def test_letters_that_are_gone(self):
        copied = self.copy.wanting(1, ("a",)).dropping(2).making(1, ())
        later = self.folder.removed((1, 2, 3)).trimmed(6)
        self.step(copied, later, [("append", 1, ())], [1, 2])
        self.step(copied, self.folder.removed((2, 3)), [("take", (1,), "b"), ("append", 1, ())], [2])
        # What was as it had been is not lost.
        self.step(self.copy, later, [], [])

    def test_letters_that_are_to_go_get_nothing_else(self):
        copied = self.copy.wanting(1, ("x",)).dropping(1)
        self.step(copied, self.folder, [("remove", (1,))], [])

    def test_another_age(self):
        other = Folder(5).appended(7, ("a",)).appended(1, ())
        copied = self.copy.wanting(1, ("x",)).dropping(3).making(6, ("y",)).making(6, ("y",))
        folder = self.step(copied, other, [("append", 6, ("y",))] * 2, [1, 3])
        self.assertEqual([letter[:3] for letter in folder.letters()[2:]], [(3, 6, ("y",)), (4, 6, ("y",))])
        self.step(self.copy, other, [], [])

    def test_bases_of_which_the_folder_knows_nothing(self):
        copied = Copy(4, 1, [(1, 7, ("q", "r"), ("r", "s")), (8, 1, (), ("t",)), (9, 1, ("u",), ("u",))])
        self.step(copied, self.folder, [("add", (1,), "s")], [8])
        self.step(copied, self.folder.added((1,), "q").added((1,), "s"), [("take", (1,), "q")], [8])

    def test_drawn_steps(self):
        for seed in range(200):
            chance = random.Random(seed)
            copies, folder = some_copies(chance, 3)
            for copied in copies:
                end, later, sent, lost = stepped(copied, folder)
                self.assertEqual(later, played(folder, sent))
                self.assertEqual(stepped(end, later), (copy_of(later), later, (), ()))
                letters = {letter[0]: set(letter[2]) for letter in folder.letters()}
                for number, _, base, wanted in copied.letters():
                    if number not in letters:
                        self.assertEqual(number in lost, wanted != base)
                    elif wanted is None:
                        del letters[number]
                    else:
                        letters[number] |= set(wanted) - set(base)
                        letters[number] -= set(base) - set(wanted)
                many = len(copied.made())
                rows = [(letter[0], set(letter[2])) for letter in later.letters()]
                self.assertEqual(rows[:len(rows) - many], sorted(letters.items()))
                self.assertEqual([letter[1:3] for letter in later.letters()[len(rows) - many:]], copied.made())

    def test_arguments_stay(self):
        folder, copied = three(), copy_of(three()).dropping(1).making(1, ())
        kept = (state(folder), told(copied))
        stepped(copied, folder)
        self.assertEqual((state(folder), told(copied)), kept)


class Errors(unittest.TestCase):

    def assert_value(self, kind, value, call, *arguments):
        with self.assertRaises(kind) as caught:
            call(*arguments)
        self.assertIs(caught.exception.value, value)

    def test_copy_of_and_stepped(self):
        for value in [value for value in objects() if not isinstance(value, Copy)]:
            if not isinstance(value, Folder):
                self.assert_value(BadFolder, value, copy_of, value)
                self.assert_value(BadFolder, value, stepped, copy_of(three()), value)
            self.assert_value(BadCopy, value, stepped, value, None)

    def test_copies(self):
        one = copy_of(three())
        for call, most in ((run, 4), (least_row, 4), (end_of, 12), (order_for, 12), (ends, 12)):
            rest = (None,) if call in (run, end_of, order_for) else ()
            for value in [value for value in objects() if not isinstance(value, Copy)]:
                if not isinstance(value, (list, tuple)):
                    self.assert_value(BadCopy, value, call, value, None, *rest)
                self.assert_value(BadCopy, value, call, [one, value, None], None, *rest)
                if not isinstance(value, Folder):
                    self.assert_value(BadFolder, value, call, [one, one], value, *rest)
                    self.assert_value(BadFolder, value, call, (), value, *rest)
            for many in ([one] * (most + 1), (one,) * (most + 3), [None] * (most + 1)):
                self.assert_value(BadCopy, many, call, many, None, *rest)

    def test_rows(self):
        one = copy_of(three())
        for value in objects():
            if not isinstance(value, tuple):
                self.assertEqual(raised(run, [one, one], three(), value), ("BadRow", -1))
            if not (is_whole(value, 0) and value < 2):
                self.assertEqual(raised(run, [one, one], three(), (0, 1, value, None)), ("BadRow", 2))
        self.assertEqual(raised(run, [], three(), (0,)), ("BadRow", 0))
        self.assertEqual(raised(run, [one], three(), [0]), ("BadRow", -1))
        self.assertEqual(raised(run, [one], three(), (0, -1)), ("BadRow", 1))
        self.assertRaises(BadRow, run, [one], three(), None)

    def test_orders(self):
        one = copy_of(three())
        for value in objects() + [(0,), (0, 0), (0, 1, 2), (1, 2), [0, 1], (0, True), (False, 1), (0, None), (-1, 0), (0, "1")]:
            self.assertEqual(raised(end_of, [one, one], three(), value), ("BadRow", -1), value)
        self.assertEqual(raised(end_of, [], three(), None), ("BadRow", -1))
        self.assertEqual(end_of([], three(), ()), ((1, ()), (2, ("b",)), (3, SIX)))

    def test_another_age_or_something_made(self):
        one = copy_of(three())
        for other in (one.making(1, ()), copy_of(Folder(5)), copy_of(Folder(5)).making(1, ())):
            for call, rest in ((end_of, (None,)), (order_for, (None,)), (ends, ())):
                self.assert_value(BadCopy, other, call, [one, other, one.making(2, ())], three(), *rest)
                # Ahead of it is what is no copy, and what is no folder.
                self.assert_value(BadCopy, 7, call, [one, other, 7], three(), *rest)
                self.assert_value(BadFolder, 7, call, [one, other], 7, *rest)
            self.assertEqual(run([other], three(), ())[2], ())

    def test_too_large(self):
        one = copy_of(three())
        for many in (7, 12):
            self.assertEqual(raised(ends, [one] * many, three()), ("TooLarge", 6))
        self.assertRaises(TooLarge, ends, (one,) * 7, three())
        self.assertEqual(len(ends([one] * 6, three())), 1)
        self.assert_value(BadFolder, 7, ends, [one] * 7, 7)

    def test_classes_of_errors(self):
        self.assertRaises(BadNumber, copy_of(three()).dropping, 9)
        self.assertRaises(BadSigns, copy_of(three()).wanting, 1, None)
        self.assertRaises(BadValue, copy_of(three()).making, None, None)

    def test_copies_stay(self):
        copies = [copy_of(three()).dropping(1), copy_of(three()).wanting(2, ("q",))]
        kept = copy.deepcopy([told(copied) for copied in copies])
        run(copies, three(), (0, 1))
        least_row(copies, three())
        ends(copies, three())
        end_of(copies, three(), (1, 0))
        self.assertEqual([told(copied) for copied in copies], kept)


if __name__ == "__main__":
    unittest.main()
