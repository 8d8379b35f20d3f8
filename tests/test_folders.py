"""[2.1] to [2.4] and [2.6]: folders, their deeds, copies and moves."""

import copy
import random
import unittest

from mailtide.errors import BadFolder, BadNumber, BadSigns, BadValue
from mailtide.folders import Folder, copied, moved
from tests.wrong import is_numbers, is_signs, is_sign, is_whole, objects, raised

SIX = ("a", "b", "c", "d", "e", "f")


def state(folder):
    """All that a folder tells."""
    return (folder.age(), folder.letters(), folder.next_number(), folder.mark(), folder.gone(), folder.cut())


def three():
    """A folder of three letters."""
    return Folder(4).appended(7, ()).appended(0, ("b",)).appended(9, SIX)


class NewFolder(unittest.TestCase):

    def test_empty(self):
        self.assertEqual(state(Folder(1)), (1, [], 1, 0, [], 0))
        self.assertEqual(state(Folder(10 ** 30 - 1)), (10 ** 30 - 1, [], 1, 0, [], 0))

    def test_wrong_ages(self):
        for age in objects() + [0, -1, True, "1", None]:
            if not is_whole(age, 1):
                with self.assertRaises(BadNumber) as caught:
                    Folder(age)
                self.assertIs(caught.exception.value, age)

    def test_methods_stand_in_the_class(self):
        names = "age letters next_number mark gone cut appended added taken set_to removed trimmed"
        for name in names.split():
            self.assertIn(name, vars(Folder))


class Equality(unittest.TestCase):

    def test_equal(self):
        self.assertEqual(Folder(3), Folder(3))
        self.assertEqual(three(), three())
        self.assertFalse(three() != three())
        one = Folder(1).appended(1, ("a",)).added((1,), "b").taken((1,), "b")
        other = Folder(1).appended(1, ("a",)).set_to((1,), ()).set_to((1,), ("a",))
        self.assertEqual(one, other)

    def test_each_part_counts(self):
        base = Folder(1).appended(1, ()).appended(1, ()).removed((1,))
        others = [
            Folder(2).appended(1, ()).appended(1, ()).removed((1,)),
            Folder(1).appended(1, ()).appended(2, ()).removed((1,)),
            Folder(1).appended(1, ()).appended(1, ("a",)).removed((1,)),
            Folder(1).appended(1, ()).appended(1, ()).removed((2,)),
            base.trimmed(3),
            base.trimmed(1),
            base.added((2,), "a"),
            Folder(1).appended(1, ()).appended(1, ()).removed((1,)).trimmed(2),
        ]
        for at, other in enumerate(others):
            self.assertNotEqual(base, other, at)
            self.assertFalse(base == other, at)
        ahead = Folder(1).appended(1, ()).removed((1,)).trimmed(2)
        behind = Folder(1).appended(1, ()).added((1,), "a")
        self.assertNotEqual(ahead, behind.removed((1,)).trimmed(3))

    def test_next_number_alone(self):
        one = Folder(1).appended(1, ()).removed((1,)).appended(1, ()).removed((2,)).trimmed(4)
        other = Folder(1).appended(1, ()).added((1,), "a").taken((1,), "a").removed((1,)).trimmed(4)
        self.assertEqual((one.mark(), one.letters(), one.gone(), one.cut()), (4, [], [], 4))
        self.assertEqual((other.mark(), other.letters(), other.gone(), other.cut()), (4, [], [], 4))
        self.assertNotEqual(one, other)

    def test_nothing_else(self):
        class Any:
            def __eq__(self, other):
                return True

        for value in objects() + [(1, [], 1, 0, [], 0), [], Any()]:
            if not isinstance(value, Folder):
                self.assertFalse(Folder(1) == value)
                self.assertTrue(Folder(1) != value)


class Deeds(unittest.TestCase):

    def test_appended(self):
        folder = Folder(2).appended(5, ("a", "b"))
        self.assertEqual(state(folder), (2, [(1, 5, ("a", "b"), 1)], 2, 1, [], 0))
        folder = folder.appended(0, SIX)
        self.assertEqual(folder.letters(), [(1, 5, ("a", "b"), 1), (2, 0, SIX, 2)])
        self.assertEqual((folder.next_number(), folder.mark()), (3, 2))

    def test_numbers_are_never_used_again(self):
        folder = three().removed((3,)).trimmed(4).appended(1, ())
        self.assertEqual([letter[0] for letter in folder.letters()], [1, 2, 4])
        self.assertEqual(folder.next_number(), 5)

    def test_added(self):
        folder = three().added([2, 1], "aa")
        self.assertEqual(folder.letters(), [(1, 7, ("aa",), 4), (2, 0, ("aa", "b"), 5), (3, 9, SIX, 3)])
        self.assertEqual((folder.mark(), folder.next_number(), folder.gone()), (5, 4, []))

    def test_added_passes_over(self):
        self.assertEqual(three().added((3,), "g"), three())
        self.assertEqual(three().added((3,), "a"), three())
        self.assertEqual(three().added((2,), "b"), three())
        self.assertEqual(three().added((4, 99, 10 ** 30 - 1), "b"), three())
        self.assertEqual(three().added((), "b"), three())
        folder = three().added((3, 2, 1, 1, 5), "b")
        self.assertEqual(folder.letters(), [(1, 7, ("b",), 4), (2, 0, ("b",), 2), (3, 9, SIX, 3)])
        self.assertEqual(folder.mark(), 4)

    def test_sixth_and_seventh_sign(self):
        folder = Folder(1).appended(0, ("b", "c", "d", "e", "f")).added((1,), "a")
        self.assertEqual(folder.letters(), [(1, 0, SIX, 2)])
        self.assertEqual(folder.added((1,), "aa"), folder)
        self.assertEqual(folder.taken((1,), "c").added((1,), "zz").letters(), [(1, 0, ("a", "b", "d", "e", "f", "zz"), 4)])

    def test_taken(self):
        folder = three().taken((3, 2, 1), "b")
        self.assertEqual(folder.letters(), [(1, 7, (), 1), (2, 0, (), 4), (3, 9, ("a", "c", "d", "e", "f"), 5)])
        self.assertEqual(folder.mark(), 5)
        self.assertEqual(three().taken((1, 2, 9), "a"), three())
        self.assertEqual(three().taken([], "b"), three())

    def test_set_to(self):
        folder = three().set_to((3, 1, 2, 3), ("b",))
        self.assertEqual(folder.letters(), [(1, 7, ("b",), 4), (2, 0, ("b",), 2), (3, 9, ("b",), 5)])
        self.assertEqual(folder.mark(), 5)
        self.assertEqual(three().set_to([1], ()), three())
        self.assertEqual(three().set_to([3], SIX), three())
        self.assertEqual(three().set_to([8], SIX), three())

    def test_removed(self):
        folder = three().removed([3, 1, 3, 8])
        self.assertEqual(state(folder), (4, [(2, 0, ("b",), 2)], 4, 5, [(4, 1), (5, 3)], 0))
        self.assertEqual(folder.removed((1, 3)), folder)
        self.assertEqual(folder.removed((2,)).gone(), [(4, 1), (5, 3), (6, 2)])
        self.assertEqual(three().removed(()), three())

    def test_trimmed(self):
        folder = three().removed((3, 1)).removed((2,))
        self.assertEqual(folder.gone(), [(4, 1), (5, 3), (6, 2)])
        self.assertEqual(folder.trimmed(0), folder)
        for mark, gone in ((1, 3), (3, 3), (4, 2), (5, 1), (6, 0)):
            trimmed = folder.trimmed(mark)
            self.assertEqual(trimmed.gone(), folder.gone()[3 - gone:])
            self.assertEqual((trimmed.cut(), trimmed.mark(), trimmed.next_number()), (mark, 6, 4))

    def test_trimmed_below_and_above_an_earlier_one(self):
        folder = three().removed((3, 1)).trimmed(4)
        self.assertEqual((folder.cut(), folder.gone()), (4, [(5, 3)]))
        for mark in (0, 3, 4):
            self.assertEqual(folder.trimmed(mark), folder)
        self.assertEqual((folder.trimmed(5).cut(), folder.trimmed(5).gone()), (5, []))
        later = folder.removed((2,))
        self.assertEqual((later.cut(), later.gone()), (4, [(5, 3), (6, 2)]))
        self.assertEqual(Folder(1).trimmed(0), Folder(1))

    def test_mark_is_the_number_of_changes(self):
        chance = random.Random(7)
        for _ in range(60):
            folder, model = Folder(3), Model(3)
            for _ in range(25):
                deed = model.some_deed(chance)
                folder = getattr(folder, deed[0])(*deed[1:])
                getattr(model, deed[0])(*deed[1:])
                self.assertEqual(state(folder), model.state())

    def test_disjoint_deeds_differ_by_marks_alone(self):
        deeds = [
            lambda folder: folder.added((1, 9), "x"), lambda folder: folder.removed((2,)),
            lambda folder: folder.set_to((3,), ("z",)),
        ]
        for one in deeds:
            for other in deeds:
                if one is not other:
                    ends = [other(one(three())), one(other(three()))]
                    told = [[letter[:3] for letter in end.letters()] for end in ends]
                    self.assertEqual(told[0], told[1])
                    self.assertEqual(ends[0].mark(), ends[1].mark())
                    self.assertEqual([row[1] for row in ends[0].gone()], [row[1] for row in ends[1].gone()])
                    self.assertNotEqual(ends[0], ends[1])


class Model:
    """A folder as the document words it, change by change."""

    def __init__(self, age):
        self.age, self.table, self.number, self.mark, self.went, self.cut = age, {}, 1, 0, [], 0

    def state(self):
        letters = [(number, *self.table[number]) for number in sorted(self.table)]
        return (self.age, letters, self.number, self.mark, [row for row in self.went if row[0] > self.cut], self.cut)

    def appended(self, body, signs):
        self.mark += 1
        self.table[self.number] = (body, signs, self.mark)
        self.number += 1

    def change(self, numbers, signs_of):
        for number in sorted(set(numbers)):
            if number in self.table:
                body, signs, _ = self.table[number]
                wanted = tuple(sorted(signs_of(set(signs))))
                if wanted != signs and len(wanted) <= 6:
                    self.mark += 1
                    self.table[number] = (body, wanted, self.mark)

    def added(self, numbers, sign):
        self.change(numbers, lambda signs: signs | {sign})

    def taken(self, numbers, sign):
        self.change(numbers, lambda signs: signs - {sign})

    def set_to(self, numbers, signs):
        self.change(numbers, lambda _: signs)

    def removed(self, numbers):
        for number in sorted(set(numbers)):
            if self.table.pop(number, None):
                self.mark += 1
                self.went.append((self.mark, number))

    def trimmed(self, mark):
        self.cut = max(self.cut, mark)

    def some_deed(self, chance):
        word = chance.choice(("appended", "appended", "added", "added", "taken", "set_to", "removed", "trimmed"))
        numbers = [chance.randint(1, self.number + 1) for _ in range(chance.randint(0, 5))]
        signs = tuple(sorted(chance.sample("abcdefg", chance.randint(0, 6))))
        values = {
            "appended": (chance.randint(0, 9), signs), "added": (numbers, chance.choice("abcdefg")),
            "taken": (tuple(numbers), chance.choice("abcdefg")), "set_to": (numbers, signs), "removed": (numbers,),
            "trimmed": (chance.randint(0, self.mark),),
        }
        return (word, *values[word])


class CopiesAndMoves(unittest.TestCase):

    def setUp(self):
        self.one = three().removed((2,)).appended(5, ("z",))
        self.other = Folder(9).appended(1, ()).added((1,), "q")

    def test_copied_to_another(self):
        one, other, pairs = copied(self.one, self.other, [4, 2, 1, 1, 77])
        self.assertEqual(one, self.one)
        self.assertEqual(pairs, [(1, 2), (4, 3)])
        self.assertEqual(other, self.other.appended(7, ()).appended(5, ("z",)))
        self.assertEqual(other.letters()[1:], [(2, 7, (), 3), (3, 5, ("z",), 4)])

    def test_moved_to_another(self):
        one, other, pairs = moved(self.one, self.other, (4, 1))
        self.assertEqual(one, self.one.removed((1, 4)))
        self.assertEqual(other, self.other.appended(7, ()).appended(5, ("z",)))
        self.assertEqual(pairs, [(1, 2), (4, 3)])

    def test_copied_within_one(self):
        one, other, pairs = copied(self.one, None, (4, 1, 5, 6))
        self.assertIsNone(other)
        self.assertEqual(pairs, [(1, 5), (4, 6)])
        self.assertEqual(one, self.one.appended(7, ()).appended(5, ("z",)))

    def test_moved_within_one(self):
        one, other, pairs = moved(self.one, None, (5, 4, 1))
        self.assertIsNone(other)
        self.assertEqual(pairs, [(1, 5), (4, 6)])
        self.assertEqual(one, self.one.appended(7, ()).removed((1,)).appended(5, ("z",)).removed((4,)))
        self.assertEqual(one.letters(), [(3, 9, SIX, 3), (5, 7, (), 6), (6, 5, ("z",), 8)])
        self.assertEqual(one.gone(), [(4, 2), (7, 1), (9, 4)])

    def test_of_one_to_one_that_is_the_same(self):
        for same in (self.one, three().removed((2,)).appended(5, ("z",))):
            one, other, pairs = copied(self.one, same, (1,))
            self.assertEqual((one, other, pairs), (self.one, self.one.appended(7, ()), [(1, 5)]))
            one, other, pairs = moved(self.one, same, (1, 3))
            self.assertEqual(one, self.one.removed((1, 3)))
            self.assertEqual(other, self.one.appended(7, ()).appended(9, SIX))
            self.assertEqual(pairs, [(1, 5), (3, 6)])

    def test_nothing_to_carry(self):
        for call in (copied, moved):
            for numbers in ((), [2], (99,)):
                self.assertEqual(call(self.one, self.other, numbers), (self.one, self.other, []))
                self.assertEqual(call(self.one, None, numbers), (self.one, None, []))

    def test_kinds_of_values(self):
        for call in (copied, moved):
            for other in (None, self.other):
                value = call(self.one, other, (1,))
                self.assertIs(type(value), tuple)
                self.assertIs(type(value[2]), list)
                self.assertIs(type(value[2][0]), tuple)

    def test_folders_stay(self):
        ahead = (state(self.one), state(self.other))
        for call in (copied, moved):
            call(self.one, self.other, [1, 3])
            call(self.one, None, [1, 3])
            call(self.one, self.one, [1, 3])
        self.assertEqual((state(self.one), state(self.other)), ahead)

    def test_errors(self):
        for call in (copied, moved):
            for value in objects():
                if not isinstance(value, Folder):
                    self.assert_value(BadFolder, value, call, value, 5, True)
                    if value is not None:
                        self.assert_value(BadFolder, value, call, self.one, value, True)
                if not is_numbers(value):
                    self.assertEqual(raised(call, self.one, self.other, value), ("BadValue", "numbers"))
                    self.assertEqual(raised(call, self.one, None, value), ("BadValue", "numbers"))
            self.assertEqual(raised(call, None, None, (1,)), ("BadFolder", None))

    def assert_value(self, kind, value, call, *arguments):
        with self.assertRaises(kind) as caught:
            call(*arguments)
        self.assertIs(caught.exception.value, value)


class Values(unittest.TestCase):

    def test_folder_stays_as_it_was(self):
        folder = three().removed((2,))
        ahead = state(folder)
        folder.appended(1, ())
        folder.added((1, 3), "z")
        folder.taken((3,), "a")
        folder.set_to((1, 3), ("q",))
        folder.removed((1, 3))
        folder.trimmed(4)
        self.assertEqual(state(folder), ahead)

    def test_lists_handed_out(self):
        folder = three().removed((2,))
        ahead = copy.deepcopy(state(folder))
        for listed in (folder.letters(), folder.gone()):
            self.assertIs(type(listed), list)
            listed.append((9, 9, (), 9))
            listed.reverse()
            del listed[0]
        self.assertEqual(state(folder), ahead)
        pairs = copied(folder, None, (1,))[2]
        pairs.clear()
        self.assertEqual(copied(folder, None, (1,))[2], [(1, 4)])

    def test_lists_handed_in(self):
        numbers = [3, 1, 1]
        folder = three()
        ends = [folder.added(numbers, "z"), folder.removed(numbers), copied(folder, None, numbers)[0]]
        told = [state(end) for end in ends]
        self.assertEqual(numbers, [3, 1, 1])
        numbers[:] = [2]
        self.assertEqual([state(end) for end in ends], told)

    def test_kinds_of_values(self):
        folder = three().removed((1,))
        for letter in folder.letters():
            self.assertIs(type(letter), tuple)
            self.assertIs(type(letter[2]), tuple)
        self.assertIs(type(folder.gone()[0]), tuple)
        for value in (folder.age(), folder.mark(), folder.next_number(), folder.cut()):
            self.assertIs(type(value), int)


class DeedErrors(unittest.TestCase):

    def test_numbers(self):
        folder = three()
        wrong = [value for value in objects() if not is_numbers(value)]
        wrong += [[1, True], (1, 0), [1, -2], ["1"], (1, None), [[1]], {1: 1}, {1}, range(1, 3), "1", 1]
        for value in wrong:
            self.assertEqual(raised(folder.added, value, None), ("BadValue", "numbers"))
            self.assertEqual(raised(folder.taken, value, None), ("BadValue", "numbers"))
            self.assertEqual(raised(folder.set_to, value, None), ("BadValue", "numbers"))
            self.assertEqual(raised(folder.removed, value), ("BadValue", "numbers"))
        self.assertEqual(state(folder), state(three()))

    def test_numbers_that_are_far_from_all(self):
        for numbers in ([10 ** 30 - 1], (10 ** 29, 5, 4), list(range(4, 300))):
            self.assertEqual(three().removed(numbers), three())

    def test_body(self):
        for value in objects():
            if not is_whole(value, 0):
                self.assertEqual(raised(three().appended, value, None), ("BadValue", "body"))
        self.assertEqual(raised(three().appended, True, ()), ("BadValue", "body"))
        self.assertEqual(raised(three().appended, -1, ()), ("BadValue", "body"))
        self.assertEqual(three().appended(10 ** 30 - 1, ()).letters()[-1], (4, 10 ** 30 - 1, (), 4))

    def test_sign(self):
        wrong = [value for value in objects() if not is_sign(value)]
        wrong += ["", "A", "a1", "a ", "abcdefghi", "a,b", "\u00e4", "\u0430", "a\n", ("a",), ["a"], b"a"]
        for value in wrong:
            self.assert_signs(value, three().added, (1,), value)
            self.assert_signs(value, three().taken, [], value)
        for sign in ("a", "z", "abcdefgh", "zzzzzzzz"):
            self.assertEqual(three().added((1,), sign).letters()[0], (1, 7, (sign,), 4))

    def test_signs(self):
        wrong = [value for value in objects() if not is_signs(value)]
        wrong += [
            ["a"], "a", ("b", "a"), ("a", "a"), ("a", "b", "a"), ("a", 1), ("",), ("A",), ("abcdefghi",), (*SIX, "g"),
            ("a", None), (["a"],), (("a",),), {"a"}, frozenset("a"), ("a", "b", True),
        ]
        for value in wrong:
            self.assert_signs(value, three().appended, 0, value)
            self.assert_signs(value, three().set_to, (1,), value)
        for signs in ((), ("a",), ("a", "aa", "b"), SIX, ("abcdefgh",)):
            self.assertEqual(three().appended(0, signs).letters()[-1], (4, 0, signs, 4))

    def test_mark(self):
        for value in objects() + [4, 10 ** 30, -1, True, False]:
            if not (is_whole(value, 0) and value <= 3):
                self.assertEqual(raised(three().trimmed, value), ("BadValue", "mark"))
        self.assertEqual(raised(Folder(1).trimmed, 1), ("BadValue", "mark"))
        self.assertEqual(three().trimmed(3).cut(), 3)

    def test_first_wrong_argument_decides(self):
        folder = three()
        self.assertEqual(raised(folder.appended, -1, "x"), ("BadValue", "body"))
        self.assertEqual(raised(folder.appended, 1, "x"), ("BadSigns", "x"))
        self.assertEqual(raised(folder.added, 1, "X"), ("BadValue", "numbers"))
        self.assertEqual(raised(folder.added, (), "X"), ("BadSigns", "X"))
        self.assertEqual(raised(folder.set_to, {}, ["a"]), ("BadValue", "numbers"))
        self.assertEqual(raised(folder.set_to, [], ["a"]), ("BadSigns", ["a"]))

    def test_classes_of_errors(self):
        self.assertRaises(BadValue, three().removed, None)
        self.assertRaises(BadSigns, three().added, (1,), None)
        self.assertRaises(BadFolder, moved, None, None, ())
        self.assertRaises(BadNumber, Folder, "1")

    def assert_signs(self, value, call, *arguments):
        with self.assertRaises(BadSigns) as caught:
            call(*arguments)
        self.assertIs(caught.exception.value, value)


if __name__ == "__main__":
    unittest.main()
