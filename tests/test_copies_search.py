"""[6.3] and [6.4]: rows of steps against all shorter rows, ends against all orders."""

import itertools
import random
import unittest

from mailtide.copies import Copy, copy_of, end_of, ends, least_row, order_for, run, stepped
from mailtide.folders import Folder
from tests.test_copies import some_copies, some_copy
from tests.test_folders import three


def is_in_step(copies, folder):
    return all(copied == copy_of(folder) for copied in copies)


def searched_row(copies, folder):
    """The least of the shortest rows behind which all are in step."""
    layer = [((), tuple(copies), folder)]
    while True:
        for row, now, later in layer:
            if is_in_step(now, later):
                return row
        layer = [
            (row + (at,), now[:at] + (step[0],) + now[at + 1:], step[1])
            for row, now, later in layer for at in range(len(now)) for step in [stepped(now[at], later)]
        ]


def searched_ends(copies, folder):
    """For each end its least order."""
    found = {}
    for order in itertools.permutations(range(len(copies))):
        found.setdefault(end_of(copies, folder, order), order)
    return found


class Rows(unittest.TestCase):

    def test_run(self):
        folder = three()
        one, two = copy_of(folder).wanting(1, ("x", "y")), copy_of(folder).dropping(1).making(5, ())
        copies, later, sends = run([one, two], folder, (0, 1, 1, 0))
        self.assertEqual(sends, (2, 2, 0, 0))
        self.assertEqual(later, folder.added((1,), "x").added((1,), "y").removed((1,)).appended(5, ()))
        self.assertEqual(copies, (copy_of(later),) * 2)
        copies, later, sends = run((one, two), folder, (1, 0))
        self.assertEqual((sends, later), ((2, 0), folder.removed((1,)).appended(5, ())))
        self.assertEqual(run([one, two], folder, ()), ((one, two), folder, ()))
        self.assertEqual(run([], folder, ()), ((), folder, ()))
        self.assertEqual([type(value) for value in run([one], folder, (0,))], [tuple, Folder, tuple])

    def test_least_rows(self):
        folder = three()
        idle, old = copy_of(folder), copy_of(Folder(4).appended(7, ()))
        one, two = idle.wanting(1, ("x",)), idle.wanting(2, ())
        self.assertEqual(least_row([], folder), ())
        self.assertEqual(least_row([idle, idle], folder), ())
        self.assertEqual(least_row([idle, old, idle, old], folder), (1, 3))
        self.assertEqual(least_row([one], folder), (0,))
        self.assertEqual(least_row([one, idle], folder), (0, 1))
        self.assertEqual(least_row([idle, one], folder), (1, 0))
        self.assertEqual(least_row([one, two], folder), (0, 1, 0))
        self.assertEqual(least_row([one, one], folder), (0, 1))
        self.assertEqual(least_row([one, idle, two, old], folder), (0, 2, 0, 1, 3))
        self.assertEqual(least_row([copy_of(Folder(9)), copy_of(Folder(9)).making(1, ())], folder), (1, 0))

    def test_a_step_that_is_best_last(self):
        # The first one wants what the second one does, and more: if it steps ahead, the second one sends nothing.
        folder = three()
        one, two = copy_of(folder).wanting(1, ("x",)), copy_of(folder).wanting(1, ("x", "y"))
        self.assertEqual(least_row([one, two], folder), (1, 0))
        self.assertEqual(run([one, two], folder, (1, 0))[2], (2, 0))

    def test_facts(self):
        for seed in range(150):
            chance = random.Random(seed)
            copies, folder = some_copies(chance, 4)
            row = tuple(chance.randrange(len(copies)) for _ in range(chance.randint(0, 7))) if copies else ()
            ends_there, later, sends = run(copies, folder, row)
            last = max([at for at, many in enumerate(sends) if many], default=None)
            if last is None:
                expected = {at for at, copied in enumerate(copies) if copied != copy_of(folder)} <= set(row)
            else:
                expected = set(range(len(copies))) <= set(row[last:])
            self.assertEqual(is_in_step(ends_there, later), expected)
            # Each copy once, and each but the last one once more.
            order = tuple(chance.sample(range(len(copies)), len(copies)))
            self.assertTrue(is_in_step(*run(copies, folder, order + order[:-1])[:2]))
            least = least_row(copies, folder)
            self.assertTrue(is_in_step(*run(copies, folder, least)[:2]))

    def test_up_to_three_copies_against_all_rows(self):
        for seed in range(400):
            chance = random.Random(seed)
            copies, folder = some_copies(chance, 3)
            if copies and chance.random() < 0.2:
                copies[0] = Copy(9, copies[0].mark(), copies[0].letters(), copies[0].made())
            self.assertEqual(least_row(copies, folder), searched_row(copies, folder), seed)

    def test_four_copies_against_all_rows(self):
        many = 0
        for seed in range(40):
            chance = random.Random(seed)
            copies, folder = some_copies(chance, 4)
            if len(copies) == 4:
                many += 1
                self.assertEqual(least_row(copies, folder), searched_row(copies, folder), seed)
        self.assertGreater(many, 4)

    def test_many_letters(self):
        folder = Folder(1)
        for at in range(200):
            folder = folder.appended(at, ("a",))
        copies = [copy_of(folder) for _ in range(4)]
        for at in range(4):
            for number in range(1, 40):
                copies[at] = copies[at].wanting(number, ("bcde"[at],))
        self.assertEqual(least_row(copies, folder), (0, 1, 2, 3, 0, 1, 2))


class Ends(unittest.TestCase):

    def test_example(self):
        folder = Folder(1).appended(0, ("a",)).appended(1, ())
        one, two = copy_of(folder).wanting(1, ("a", "b")), copy_of(folder).wanting(1, ("c",))
        self.assertEqual(ends([one, two], folder), [((1, ("b", "c")), (2, ()))])
        self.assertEqual(order_for([one, two], folder, ((1, ("b", "c")), (2, ()))), (0, 1))

    def test_of_no_copies(self):
        end = ((1, ()), (2, ("b",)), (3, ("a", "b", "c", "d", "e", "f")))
        self.assertEqual(ends([], three()), [end])
        self.assertEqual(ends([copy_of(Folder(4))] * 3, three()), [end])
        self.assertEqual(order_for([], three(), end), ())
        self.assertIsNone(order_for([], three(), end[:2]))
        self.assertEqual(ends((), Folder(1)), [()])

    def test_the_last_one_decides(self):
        begin = Folder(1).appended(0, ("s",))
        takes, gives = copy_of(begin).wanting(1, ()), copy_of(begin.taken((1,), "s")).wanting(1, ("s", "t"))
        for now in (begin, begin.taken((1,), "s")):
            self.assertEqual(ends([takes, gives], now), [((1, ("s", "t")),), ((1, ("t",)),)])
            self.assertEqual(order_for([takes, gives], now, ((1, ("s", "t")),)), (0, 1))
            self.assertEqual(order_for([takes, gives], now, ((1, ("t",)),)), (1, 0))
            self.assertIsNone(order_for([takes, gives], now, ((1, ("s",)),)))

    def test_a_letter_that_some_copy_wants_to_go(self):
        one, two = copy_of(three()).dropping(2), copy_of(three()).wanting(2, ("q",))
        self.assertEqual(ends([one, two], three()), [((1, ()), (3, ("a", "b", "c", "d", "e", "f")))])

    def test_wanted_that_is_no_end(self):
        copies = [copy_of(three()).wanting(1, ("x",)), copy_of(three()).dropping(3)]
        end = ((1, ("x",)), (2, ("b",)))
        self.assertEqual(order_for(copies, three(), end), (0, 1))
        wrong = [
            None, 5, [], (), list(end), end[:1], end[1:], end + ((3, ()),), end[::-1], (end[0],) * 2, ([1, ("x",)], end[1]),
            ((True, ("x",)), end[1]), ((1, ["x"]), end[1]), ((1, ("x", "x")), end[1]), ((1, ()), end[1]), ((1, "x"), end[1]),
            ((1, ("x", "y")), end[1]), (end[0], (2, ())), (end[0], (2, ("b", "c"))), (end[0], (2, None)), (end[0], ()),
            (end[0], (9, ("b",))), ((9, ("x",)), end[1]), ((1, ("x",), 1), end[1]), "ab", {1: 2}, (end[0], None), ((1, {"x"}), end[1]), ((1, (["x"],)), end[1]),
        ]
        for value in wrong:
            self.assertIsNone(order_for(copies, three(), value), value)

    def test_up_to_four_copies_against_all_orders(self):
        for seed in range(250):
            chance = random.Random(seed)
            copies, folder = some_copies(chance, 4, made=False)
            self.compare(copies, folder)

    def test_five_and_six_copies_against_all_orders(self):
        for seed in range(4):
            chance = random.Random(seed)
            folder = Folder(1).appended(1, ("a",)).appended(2, ("b",))
            copies = [some_copy(chance, folder.set_to((1, 2), ("ab"[at % 2],)), False) for at in range(5 + seed % 2)]
            self.compare(copies, folder)

    def compare(self, copies, folder):
        found = searched_ends(copies, folder)
        self.assertEqual(ends(copies, folder), sorted(found))
        for end, order in found.items():
            self.assertEqual(order_for(copies, folder, end), order)
            for at, (number, signs) in enumerate(end):
                for other in ("a", "b", "c"):
                    turned = tuple(sorted({*signs} ^ {other}))
                    near = end[:at] + ((number, turned),) + end[at + 1:]
                    self.assertEqual(order_for(copies, folder, near), found.get(near))

    def test_twelve_copies(self):
        for seed in range(25):
            chance = random.Random(seed)
            begin = Folder(1)
            for body in range(6):
                begin = begin.appended(body, ("a", "b"))
            now = begin.set_to((1, 2, 3), ("b", "c"))
            copies = [some_copy(chance, chance.choice((begin, now)), False) for _ in range(12)]
            order = tuple(chance.sample(range(12), 12))
            end = end_of(copies, now, order)
            least = order_for(copies, now, end)
            self.assertEqual(end_of(copies, now, least), end)
            self.assertLessEqual(least, order)
            # One exchange of two neighbours never makes it less.
            for at in range(11):
                other = least[:at] + (least[at + 1], least[at]) + least[at + 2:]
                if other < least:
                    self.assertNotEqual(end_of(copies, now, other), end)

    def test_an_order_that_ends_are_bound_to(self):
        # Copy k gives letter k the sign, copy k + 1 takes it: so each must come behind the other, or ahead of it.
        begin = Folder(1)
        for _ in range(11):
            begin = begin.appended(0, ())
        signed = begin.set_to(list(range(1, 12)), ("x",))
        copies = []
        for at in range(12):
            rows = [(at, 0, ("x",), ()), (at + 1, 0, (), ("x",))]
            copies.append(Copy(1, 0, [row for row in rows if 1 <= row[0] <= 11]))
        every = tuple((number, ("x",)) for number in range(1, 12))
        none = tuple((number, ()) for number in range(1, 12))
        for now in (begin, signed):
            self.assertEqual(order_for(copies, now, every), tuple(range(11, -1, -1)))
            self.assertEqual(order_for(copies, now, none), tuple(range(12)))

    def test_twelve_copies_in_a_ring(self):
        # Each copy gives one letter the sign, and takes it from the next one: each sign has its own last copy.
        begin, copies = Folder(1), []
        for at in range(12):
            begin = begin.appended(0, ())
            rows = [(at + 1, 0, ("x",), ()), ((at + 1) % 12 + 1, 0, (), ("x",))]
            copies.append(Copy(1, 0, sorted(rows)))
        every = tuple((number, ("x",)) for number in range(1, 13))
        none = tuple((number, ()) for number in range(1, 13))
        self.assertIsNone(order_for(copies, begin, every))
        self.assertIsNone(order_for(copies, begin, none))
        self.assertEqual(order_for(copies, begin, every[:1] + none[1:]), tuple(range(12)))
        self.assertEqual(order_for(copies, begin, every[:11] + none[11:]), (*range(10, -1, -1), 11))


if __name__ == "__main__":
    unittest.main()
