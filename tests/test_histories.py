"""[2.5] and [2.6]: deeds as data, and histories."""

import copy
import random
import unittest

from mailtide.errors import BadDeed, BadFolder
from mailtide.folders import Folder
from mailtide.histories import played
from tests.drawn import some_deed, some_history
from tests.test_folders import Model, SIX, state, three
from tests.wrong import is_numbers, is_sign, is_signs, is_whole, objects, raised


def is_deed(value):
    """Whether the value is a deed for a folder of three marks, as the document words it."""
    if type(value) is not tuple or not value or type(value[0]) is not str:
        return False
    kinds = {
        "append": (lambda body: is_whole(body, 0), is_signs), "add": (is_numbers, is_sign),
        "take": (is_numbers, is_sign), "set": (is_numbers, is_signs), "remove": (is_numbers,),
        "trim": (lambda mark: is_whole(mark, 0) and mark <= 3,),
    }.get(value[0])
    return kinds is not None and len(kinds) == len(value) - 1 and all(map(lambda f, x: f(x), kinds, value[1:]))


class Deeds(unittest.TestCase):

    def test_each_kind(self):
        pairs = [
            (("append", 5, ("a",)), three().appended(5, ("a",))),
            (("add", (1, 2), "x"), three().added((1, 2), "x")),
            (("take", (3, 2), "b"), three().taken((3, 2), "b")),
            (("set", [1, 3], ("q",)), three().set_to([1, 3], ("q",))),
            (("remove", [2]), three().removed([2])),
            (("trim", 2), three().trimmed(2)),
        ]
        for deed, folder in pairs:
            for history in ([deed], (deed,)):
                self.assertEqual(played(three(), history), folder, deed)
        self.assertEqual(played(three(), [deed for deed, _ in pairs]).mark(), 3 + 1 + 2 + 2 + 2 + 1)

    def test_one_after_the_other(self):
        history = [
            ("append", 1, ()), ("add", (1,), "x"), ("append", 2, ("y",)), ("remove", (1,)), ("trim", 4),
            ("set", (2, 1), ()), ("append", 0, ()),
        ]
        folder = played(Folder(6), history)
        self.assertEqual(state(folder), (6, [(2, 2, (), 5), (3, 0, (), 6)], 4, 6, [], 4))
        self.assertEqual(state(played(Folder(6), history[:4])), (6, [(2, 2, ("y",), 3)], 3, 4, [(4, 1)], 0))

    def test_no_deeds(self):
        for history in ([], ()):
            self.assertEqual(played(three(), history), three())

    def test_numbers_not_there_and_twice(self):
        folder = played(three(), [("set", [2, 2, 9, 1, 10 ** 30 - 1], ("q",)), ("remove", (7,)), ("add", (), "a")])
        self.assertEqual(folder, three().set_to((1, 2), ("q",)))
        self.assertEqual(played(three(), [("remove", (3, 1, 3))]).gone(), [(4, 1), (5, 3)])

    def test_a_seventh_sign_is_passed_over(self):
        self.assertEqual(played(three(), [("add", (3,), "g")]), three())
        history = [("take", (3,), "a"), ("add", (3,), "g"), ("add", (1, 3), "h")]
        self.assertEqual(played(three(), history).letters()[2], (3, 9, ("b", "c", "d", "e", "f", "g"), 5))
        for deed in (("set", (1,), (*SIX, "g")), ("append", 1, (*SIX, "g"))):
            self.assertEqual(raised(played, three(), [("add", (3,), "g"), deed]), ("BadDeed", 1))

    def test_trims(self):
        self.assertEqual(played(Folder(1), [("trim", 0)]), Folder(1))
        history = [("append", 1, ()), ("trim", 1), ("remove", (1,)), ("trim", 2), ("trim", 0)]
        self.assertEqual(state(played(Folder(1), history)), (1, [], 2, 2, [], 2))

    def test_lists_and_folders_stay(self):
        folder, history = three(), [("remove", [2, 2, 1]), ["no deed"]]
        kept = copy.deepcopy(history)
        played(folder, history[:1])
        self.assertEqual(raised(played, folder, history), ("BadDeed", 1))
        self.assertEqual((state(folder), history), (state(three()), kept))

    def test_against_a_model(self):
        words = {"append": "appended", "add": "added", "take": "taken", "set": "set_to", "remove": "removed",
                 "trim": "trimmed"}
        for seed in range(60):
            history = some_history(random.Random(seed), 3, 30)
            model = Model(3)
            for deed in history:
                getattr(model, words[deed[0]])(*deed[1:])
            self.assertEqual(state(played(Folder(3), history)), model.state())


class Errors(unittest.TestCase):

    def test_folder(self):
        for value in objects():
            if not isinstance(value, Folder):
                with self.assertRaises(BadFolder) as caught:
                    played(value, None)
                self.assertIs(caught.exception.value, value)

    def test_no_history(self):
        for value in objects():
            if not isinstance(value, (list, tuple)):
                self.assertEqual(raised(played, three(), value), ("BadDeed", -1))
        self.assertRaises(BadDeed, played, three(), {})

    def test_objects_in_the_stead_of_deeds(self):
        wrong = [value for value in objects() if not is_deed(value)]
        for at, value in enumerate(wrong):
            ahead = [("append", 1, ())] * (at % 3)
            self.assertEqual(raised(played, three(), ahead + [value, None]), ("BadDeed", at % 3))

    def test_objects_in_the_stead_of_arguments(self):
        deeds = [("append", 1, ()), ("add", (1,), "a"), ("take", [1], "a"), ("set", (1,), ()), ("remove", (1,)), ("trim", 1)]
        for deed in deeds:
            self.assertTrue(is_deed(deed))
            for at in range(len(deed)):
                for value in objects() + [4, 10 ** 29, ["a"], (1, 0), [True], ("b", "a")]:
                    other = deed[:at] + (value,) + deed[at + 1:]
                    if not is_deed(other):
                        self.assertEqual(raised(played, three(), (other,)), ("BadDeed", 0), other)
                    else:
                        played(three(), (other,))

    def test_words_too_few_or_too_many(self):
        deeds = [("append", 1, ()), ("add", (1,), "a"), ("take", [1], "a"), ("set", (1,), ()), ("remove", (1,)), ("trim", 1)]
        for deed in deeds:
            wrong = [deed[:many] for many in range(len(deed))]
            wrong += [deed + (value,) for value in (None, (), "a", 1, (1,))]
            wrong += [list(deed), (deed,), deed[::-1], ("x",) + deed[1:], (deed[0].upper(),) + deed[1:]]
            for value in wrong:
                self.assertEqual(raised(played, three(), [("trim", 0), value]), ("BadDeed", 1), value)

    def test_trim_above_the_mark_of_its_moment(self):
        for mark in (4, 5, 10 ** 29):
            self.assertEqual(raised(played, three(), [("trim", mark), ("append", 1, ())]), ("BadDeed", 0))
        # Behind one more change it is a deed.
        self.assertEqual(played(three(), [("append", 1, ()), ("trim", 4)]).cut(), 4)
        self.assertEqual(raised(played, three(), [("remove", (9,)), ("trim", 4)]), ("BadDeed", 1))

    def test_first_one_decides(self):
        history = [("append", 1, ()), ("trim", 5), ("remove", 1), None]
        self.assertEqual(raised(played, three(), history), ("BadDeed", 1))
        self.assertEqual(raised(played, three(), [*history[:1], *history[2:]]), ("BadDeed", 1))
        self.assertEqual(raised(played, three(), history[3:]), ("BadDeed", 0))


class Facts(unittest.TestCase):

    def test_mark_is_the_number_of_changes(self):
        for seed in range(40):
            chance, folder, many = random.Random(seed), Folder(2), 0
            for _ in range(20):
                deed = some_deed(chance, folder)
                later = played(folder, [deed])
                ahead = {letter[0]: letter[1:3] for letter in folder.letters()}
                behind = {letter[0]: letter[1:3] for letter in later.letters()}
                many += len([number for number in {**ahead, **behind} if ahead.get(number) != behind.get(number)])
                self.assertEqual(later.mark(), many)
                folder = later

    def test_disjoint_deeds_differ_by_marks_alone(self):
        def told(folder):
            letters = [letter[:3] for letter in folder.letters()]
            return (folder.age(), letters, folder.next_number(), folder.mark(), sorted(row[1] for row in folder.gone()))

        for seed in range(60):
            chance = random.Random(seed)
            folder = played(Folder(2), some_history(chance, 2, 12, trims=False))
            one = chance.choice([("add", (1, 2, 3), "x"), ("take", [3, 1], "a"), ("set", (2,), ()), ("remove", (2, 3))])
            other = chance.choice([("add", (4, 5), "a"), ("set", [6, 4], ("b",)), ("remove", (5,)), ("append", 1, ())])
            ends = [played(folder, [one, other]), played(folder, [other, one])]
            self.assertEqual(told(ends[0]), told(ends[1]))


if __name__ == "__main__":
    unittest.main()
