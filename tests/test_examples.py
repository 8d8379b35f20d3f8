"""The document's examples for the modules that there are, value by value."""

import doctest
import unittest
from pathlib import Path

from mailtide.copies import copy_of, ends, order_for, stepped
from mailtide.flight import finds, turned
from mailtide.folders import Folder
from mailtide.guarded import guarded_end, harmful, most_tries
from mailtide.histories import played
from mailtide.sets import count_shortest, meant, parting, plain_set, shortest
from mailtide.since import answer, is_answer, next_numbers, spoils
from mailtide.sure import sure_mark
from mailtide.views import Session

THERE = (5, 10, 11, 200, 1000)


class Examples(unittest.TestCase):

    def test_meant_of_an_end_above_all(self):
        self.assertEqual(meant("9:*", (2, 5)), [5])
        self.assertEqual(meant("2000:*", THERE), [1000])

    def test_shortest(self):
        self.assertEqual(shortest((10, 11), THERE), "11:6")
        self.assertEqual(shortest((5, 10), THERE), "10,5")
        self.assertEqual(shortest((200, 1000), THERE), "*:12")
        self.assertEqual(shortest((1000,), THERE), "*")
        self.assertEqual(shortest((), THERE), "1")

    def test_count_shortest(self):
        self.assertEqual(count_shortest((5, 10), THERE), 12)
        texts = ["10,5", "5,10"] + [f"10:{k}" for k in range(1, 6)] + [f"{k}:10" for k in range(1, 6)]
        for text in texts:
            self.assertEqual(meant(text, THERE), [5, 10])

    def test_plain_set(self):
        self.assertEqual(plain_set((7, 8, 9, 20, 21)), "20,21,7:9")

    def test_parting(self):
        self.assertEqual(parting("3:*", "*,3:8"), (9, 10))
        self.assertEqual(meant("3:*", (9, 10)), [9, 10])
        self.assertEqual(meant("*,3:8", (9, 10)), [10])

    def test_interface_examples_of_sets(self):
        values = [shortest((10, 11), THERE), shortest((5, 10), THERE), shortest((200, 1000), THERE)]
        self.assertEqual(values + [meant("2000:*", THERE)], ["11:6", "10,5", "*:12", [1000]])
        values = [count_shortest((5, 10), THERE), plain_set((7, 8, 9, 20, 21)), parting("3:*", "*,3:8")]
        self.assertEqual(values, [12, "20,21,7:9", (9, 10)])

    def test_folder_of_the_session_example(self):
        folder = Folder(1).appended(7, ()).appended(8, ("a",))
        self.assertEqual([(letter[0], letter[3]) for letter in folder.letters()], [(1, 1), (2, 2)])
        folder = folder.removed([1]).added([2], "b")
        self.assertEqual(folder.letters(), [(2, 8, ("a", "b"), 4)])
        self.assertEqual((folder.mark(), folder.next_number(), folder.gone()), (4, 3, [(3, 1)]))

    def test_folder_of_the_answer_example(self):
        folder = Folder(7).appended(1, ()).added((1,), "x").taken((1,), "x").appended(2, ()).added((1,), "y")
        self.assertEqual(folder.letters(), [(1, 1, ("y",), 5), (2, 2, (), 4)])
        self.assertEqual((folder.age(), folder.mark()), (7, 5))
        folder = folder.removed((2,))
        self.assertEqual((folder.gone(), folder.mark(), folder.next_number()), ([(6, 2)], 6, 3))

    def test_sure_mark(self):
        base = [(1, (), 3), (2, ("a",), 9), (4, (), 10)]
        rows = [("letter", 1, ("a",), 12), ("letter", 1, (), 12), ("come", 5, (), 11)]
        self.assertEqual([sure_mark(base, 10, 5, [row]) for row in rows], [10, 12, 11])

    def test_session(self):
        folder = Folder(1).appended(7, ()).appended(8, ("a",))
        session = Session(folder)
        session.see(folder.removed([1]).added([2], "b"))
        self.assertEqual([session.answer(), session.tell([("gone", 1)], False), session.told()], [
            [("gone", 1), ("letter", 1, ("a", "b"), 4), ("done", 4, 3)], 0, [(1, 1), (2, 2)]])

    def test_flight(self):
        row = [("look", 2), ("ask",), ("look", 2)]
        self.assertEqual([finds(3, row, (1,), 1), turned(3, [("take", 1), ("ask",), ("look", 3)])], [
            [[("here", 2)], [], [("here", 2), ("here", 3)]], [("take", 1), ("ask",), ("look", 2)]])

    def test_answers(self):
        folder = Folder(7).appended(1, ()).added((1,), "x").taken((1,), "x").appended(2, ()).added((1,), "y")
        self.assertEqual([next_numbers(folder, 2), answer(folder, 2), answer(folder.removed((2,)), 2)], [
            [2, 3], (2, 5, ((1, None, ("y",)), (2, 2, ())), ()), (2, 6, ((1, None, ("y",)),), (2,))])
        self.assertEqual(answer(folder.removed((2,)).trimmed(6), 2), (2, 6, ((1, None, ("y",)),), (2,)))

    def test_right_answers(self):
        history = [("append", 1, ()), ("add", (1,), "x"), ("take", (1,), "x"), ("append", 2, ()), ("add", (1,), "y")]
        folder, told = played(Folder(7), history), (2, 5, ((1, None, ("y",)),), ())
        more = told[:2] + (((1, 1, ("y",)), (2, 2, ())), (8,))
        self.assertEqual([is_answer(folder, 2, told), spoils(folder, 2, told, history), is_answer(folder, 2, more)], [
            False, True, True])

    def test_copies(self):
        folder = Folder(1).appended(0, ("a",)).appended(1, ())
        one, two = copy_of(folder).wanting(1, ("a", "b")), copy_of(folder).wanting(1, ("c",))
        end = ((1, ("b", "c")), (2, ()))
        self.assertEqual([stepped(two, folder)[2], ends([one, two], folder), order_for([one, two], folder, end)], [
            (("add", (1,), "c"), ("take", (1,), "a")), [end], (0, 1)])

    def test_guarded(self):
        wishes = [("flip", "a"), ("flip", "b")]
        values = [harmful(wishes[0], wishes[1]), guarded_end((), wishes, (0, 1, 0, 1, 1, 1)), most_tries((), wishes)]
        self.assertEqual(values, [((), (0, 1, 0, 1)), (("a", "b"), (0, 1), ()), 3])

    def test_as_the_document_shows_them(self):
        failed, tried = doctest.testfile("examples.txt")
        self.assertEqual(failed, 0)
        self.assertGreater(tried, 50)

    def test_readme(self):
        readme = Path(__file__).resolve().parent.parent / "README.md"
        failed, tried = doctest.testfile(str(readme), module_relative=False)
        self.assertEqual(failed, 0)
        self.assertGreater(tried, 0)


if __name__ == "__main__":
    unittest.main()
