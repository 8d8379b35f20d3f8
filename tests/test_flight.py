"""[5.1] to [5.5]: commands in flight."""

import copy
import itertools
import random
import unittest

from mailtide.errors import BadNumber, BadRow, BadValue
from mailtide.flight import by_number, doubt, finds, played, turned
from tests.wrong import is_whole, objects, raised

ASK = ("ask",)


def look(place):
    return ("look", place)


def take(place):
    return ("take", place)


def fates_of(row, loose, k):
    """All fates, ascending."""
    fates = []
    for many in range(k + 1):
        for letters in itertools.combinations(loose, many):
            for moments in itertools.product(range(len(row)), repeat=many):
                fates.append(tuple(zip(letters, moments)))
    return sorted(fates)


def sighted(n, row, fate, meant=None):
    """What the commands find by a fate; if letters are meant, they are what is taken."""
    rows, there, things = list(range(1, n + 1)), set(range(1, n + 1)), []
    for at, command in enumerate(row):
        there -= {letter for letter, moment in fate if moment == at}
        thing = None
        if command not in (None, ASK):
            place = command[1]
            letter = rows[place - 1] if place <= len(rows) else None
            thing = ("none",) if letter is None else ("here" if letter in there else "gone", letter)
            if meant is None and command[0] == "take":
                there.discard(letter)
        if meant is not None and meant[at][0] == "take":
            there.discard(meant[at][1])
        if command == ASK:
            rows = [letter for letter in rows if letter in there]
        things.append(thing)
    return things


def drawn_row(chance, n, most, above=1):
    """A row of commands, with places up to some above n."""
    row = []
    for _ in range(chance.randint(0, most)):
        place = chance.randint(1, n + above)
        row.append(chance.choice((ASK, look(place), look(place), take(place), take(place))))
    return row


def drawn(chance, most, above=1):
    """All arguments but the fate."""
    n = chance.randint(1, 5)
    loose = tuple(letter for letter in range(1, n + 1) if chance.random() < 0.6)
    return n, drawn_row(chance, n, most, above), loose, chance.randint(0, 2)


class Examples(unittest.TestCase):

    def test_example(self):
        row = [look(2), ASK, look(2)]
        self.assertEqual(finds(3, row, (1,), 1), [[("here", 2)], [], [("here", 2), ("here", 3)]])
        self.assertEqual(turned(3, [take(1), ASK, look(3)]), [take(1), ASK, look(2)])


class Played(unittest.TestCase):

    def test_without_others(self):
        row = [look(1), take(1), look(1), take(1), ASK, look(1), take(3), look(3)]
        self.assertEqual(played(3, row, (), 0, ()), [
            ("here", 1), ("here", 1), ("gone", 1), ("gone", 1), None, ("here", 2), ("none",), ("none",)])
        self.assertEqual(played(3, [take(1), take(2), take(3), ASK, look(1)], (), 0, ())[3:], [None, ("none",)])

    def test_with_others(self):
        row = [look(2), ASK, look(2), take(1), look(1)]
        self.assertEqual(played(3, row, (2,), 1, ((2, 0),)), [("gone", 2), None, ("here", 3), ("here", 1), ("gone", 1)])
        self.assertEqual(played(3, row, (2,), 1, ((2, 1),)), [("here", 2), None, ("here", 3), ("here", 1), ("gone", 1)])
        self.assertEqual(played(3, row, (2,), 1, ((2, 2),)), [("here", 2), None, ("gone", 2), ("here", 1), ("gone", 1)])
        self.assertEqual(played(3, row, (1, 2), 2, ((1, 0), (2, 1))), [("here", 2), None, ("none",), ("here", 3), ("gone", 3)])
        # What is taken already is not removed once more.
        self.assertEqual(played(2, [take(1), look(1), ASK, look(1)], (1,), 1, ((1, 1),)), [
            ("here", 1), ("gone", 1), None, ("here", 2)])

    def test_empty_row(self):
        self.assertEqual(played(3, (), (1, 2), 2, ()), [])
        self.assertEqual(finds(3, [], (1,), 1), [])
        self.assertIsNone(doubt(3, [], (1,), 1))
        self.assertEqual((turned(3, []), by_number(3, (), (1,), 2)), ([], []))

    def test_against_a_model(self):
        chance = random.Random(1)
        for _ in range(300):
            n, row, loose, k = drawn(chance, 8)
            for fate in chance.sample(fates_of(row, loose, k), 1):
                self.assertEqual(played(n, row, loose, k, fate), sighted(n, row, fate))


class Finds(unittest.TestCase):

    def test_end_of_the_list(self):
        row = [look(3), ASK, look(3), look(4)]
        self.assertEqual(finds(3, row, (), 0), [[("here", 3)], [], [("here", 3)], [("none",)]])
        self.assertEqual(finds(3, row, (1,), 1), [[("here", 3)], [], [("here", 3), ("none",)], [("none",)]])
        self.assertEqual(finds(3, row, (1, 3), 2), [
            [("gone", 3), ("here", 3)], [], [("gone", 3), ("here", 3), ("none",)], [("none",)]])

    def test_ten_letters_and_eight_commands(self):
        row = [take(1), ASK, take(1), ASK, take(1), ASK, look(7), look(8)]
        found = finds(10, row, tuple(range(1, 11)), 2)
        self.assertEqual(found[0], [("gone", 1), ("here", 1)])
        self.assertEqual(found[2], [("gone", 2), ("gone", 3), ("here", 2), ("here", 3), ("here", 4)])
        self.assertEqual(found[7], [("none",)])
        self.assertEqual(found[6], [("gone", 10), ("here", 10), ("none",)])

    def test_against_all_fates(self):
        chance = random.Random(2)
        for _ in range(200):
            n, row, loose, k = drawn(chance, 8)
            things = [sighted(n, row, fate) for fate in fates_of(row, loose, k)]
            self.assertEqual(finds(n, row, loose, k), [
                sorted({found[at] for found in things if found[at] is not None}) for at in range(len(row))])


class Doubt(unittest.TestCase):

    def test_none(self):
        self.assertIsNone(doubt(3, [look(3), take(3), look(3)], (1, 2, 3), 2))
        self.assertIsNone(doubt(3, [take(1), ASK, look(2)], (), 0))
        self.assertIsNone(doubt(3, [ASK, look(1)], (2, 3), 2))

    def test_least_fate(self):
        self.assertEqual(doubt(3, [look(2), ASK, look(2)], (1,), 1), (2, ((1, 0),)))
        self.assertEqual(doubt(3, [look(2), ASK, look(2)], (1, 2), 2), (2, ((1, 0),)))
        self.assertEqual(doubt(3, [ASK, look(1), ASK, look(1)], (1,), 1), (1, ((1, 0),)))
        self.assertEqual(doubt(3, [look(3), ASK, ASK, look(2)], (2, 3), 2), (3, ((2, 0),)))
        self.assertEqual(doubt(4, [ASK, look(4)], (3, 4), 2), (1, ((3, 0),)))

    def test_others_behind_the_place(self):
        self.assertIsNone(doubt(2, [ASK, look(1)], (2,), 1))
        self.assertEqual(doubt(2, [ASK, look(2)], (1, 2), 2), (1, ((1, 0),)))

    def test_nothing_without_others(self):
        for loose, k in (((), 0), ((1, 2), 2)):
            self.assertEqual(doubt(2, [look(1), look(3)], loose, k), (1, ()))
            self.assertEqual(doubt(2, [look(2), take(1), ASK, look(2)], loose, k), (3, ()))

    def test_against_all_fates(self):
        chance = random.Random(3)
        for _ in range(300):
            n, row, loose, k = drawn(chance, 8, chance.randint(0, 1))
            fates = fates_of(row, loose, k)
            things = [sighted(n, row, fate) for fate in fates]
            expected = None
            for at in range(len(row)):
                letters = {found[at][1:] for found in things if found[at] is not None}
                if letters and (len(letters) > 1 or () in letters):
                    alone = things[0][at]
                    fate = () if alone == ("none",) else [
                        fate for fate, found in zip(fates, things) if found[at][1:] != alone[1:]][0]
                    expected = (at, fate)
                    break
            self.assertEqual(doubt(n, row, loose, k), expected, (n, row, loose, k))


class Turned(unittest.TestCase):

    def test_letters_that_have_left_the_list(self):
        wishes = [take(2), look(2), ASK, look(2), take(2), look(3), take(1), ASK]
        self.assertEqual(turned(3, wishes), [take(2), look(2), ASK, None, None, look(2), take(1), ASK])
        self.assertEqual(by_number(3, wishes, (), 0), [3, 4])

    def test_without_an_ask_places_stay(self):
        wishes = [take(3), take(1), look(2), look(3)]
        self.assertEqual(turned(3, wishes), wishes)
        self.assertEqual(by_number(3, wishes, (1, 2, 3), 2), [])

    def test_by_number(self):
        wishes = [take(1), ASK, look(3), look(2)]
        self.assertEqual(turned(3, wishes), [take(1), ASK, look(2), look(1)])
        self.assertEqual(by_number(3, wishes, (), 0), [])
        self.assertEqual(by_number(3, wishes, (1,), 1), [])
        self.assertEqual(by_number(3, wishes, (2,), 1), [2, 3])
        self.assertEqual(by_number(3, wishes, (2, 3), 0), [])
        self.assertEqual(by_number(3, wishes, (3,), 1), [2])

    def test_those_ahead_are_done_to_the_letters_that_are_meant(self):
        # Turned, the take of letter 2 might find letter 3; but it ought to name its number, and then removes 2.
        wishes = [ASK, take(2), ASK, look(3)]
        self.assertEqual(turned(3, wishes), [ASK, take(2), ASK, look(2)])
        self.assertEqual(by_number(3, wishes, (1,), 1), [1, 3])
        self.assertEqual(by_number(3, [ASK, take(2), ASK, look(1)], (3,), 1), [])

    def test_against_all_fates(self):
        chance = random.Random(4)
        for _ in range(200):
            n, wishes, loose, k = drawn(chance, 8, 0)
            rows, there, row = list(range(1, n + 1)), set(range(1, n + 1)), []
            for wish in wishes:
                if wish == ASK:
                    rows = [letter for letter in rows if letter in there]
                    row.append(wish)
                else:
                    row.append((wish[0], rows.index(wish[1]) + 1) if wish[1] in rows else None)
                    there -= {wish[1]} if wish[0] == "take" else set()
            self.assertEqual(turned(n, wishes), row)
            things = [sighted(n, row, fate, wishes) for fate in fates_of(row, loose, k)]
            self.assertEqual(by_number(n, wishes, loose, k), [
                at for at, command in enumerate(row)
                if command is None or command != ASK and any(found[at][1:] != wishes[at][1:] for found in things)])


class Facts(unittest.TestCase):

    def test_drawn_rows(self):
        chance = random.Random(5)
        sure = 0
        for _ in range(300):
            n, wishes, loose, k = drawn(chance, 8, 0)
            row = turned(n, wishes)
            # Without others no command is in doubt whose letter is in the list.
            self.assertIsNone(doubt(n, [command for command in row if command is not None], (), 0))
            named = by_number(n, wishes, loose, k)
            if not named:
                sure += 1
                self.assertIsNone(doubt(n, row, loose, k))
            # A command with no ask ahead of it is sure if its place is at most n.
            ahead = wishes[:wishes.index(ASK)] if ASK in wishes else wishes
            self.assertIsNone(doubt(n, ahead, loose, k))
            self.assertFalse([at for at in named if at < len(ahead)])
        self.assertGreater(sure, 50)


class Values(unittest.TestCase):

    def test_arguments_stay_and_lists_are_new(self):
        row = [take(1), ASK, look(2)]
        kept = copy.deepcopy(row)
        for call in (lambda: played(3, row, (1,), 1, ((1, 0),)), lambda: finds(3, row, (1,), 1), lambda: turned(3, row),
                     lambda: by_number(3, row, (1,), 1)):
            value = call()
            self.assertIs(type(value), list)
            again = copy.deepcopy(value)
            value.clear()
            self.assertEqual((call(), row), (again, kept))
        finds(3, row, (1,), 1)[0].clear()
        self.assertEqual(finds(3, row, (1,), 1)[0], [("gone", 1), ("here", 1)])

    def test_rows_can_be_tuples(self):
        row = (take(1), ASK, look(2))
        self.assertEqual(finds(3, row, (), 0), finds(3, list(row), (), 0))
        self.assertEqual(turned(3, row), turned(3, list(row)))


class Errors(unittest.TestCase):

    def calls(self):
        """All functions, with all arguments but the fate; turned leaves the last ones aside."""
        return [
            (lambda n, row, loose, k: played(n, row, loose, k, None), False), (finds, False), (doubt, False),
            (by_number, True), (lambda n, row, loose, k: turned(n, row), True),
        ]

    def test_n(self):
        for call, _ in self.calls():
            for value in objects() + [0, 11, -1, 10 ** 30]:
                if not (is_whole(value, 1) and value <= 10):
                    with self.assertRaises(BadNumber) as caught:
                        call(value, None, None, None)
                    self.assertIs(caught.exception.value, value)
            self.assertEqual(raised(call, 10, None, None, None), ("BadRow", -1))

    def test_no_row(self):
        for call, _ in self.calls():
            for value in objects() + [[ASK] * 9, [None] * 9]:
                if not isinstance(value, (list, tuple)) or len(value) > 8:
                    self.assertEqual(raised(call, 3, value, None, None), ("BadRow", -1))
        self.assertEqual(finds(3, [ASK] * 8, (1,), 2), [[]] * 8)
        self.assertRaises(BadRow, finds, 3, None, (), 0)

    def test_no_command(self):
        wrong = objects() + [
            ("ask", 1), ("look",), ("take",), ("look", 1, 1), ("look", 0), ("look", True), ("look", "1"), ("take", -1),
            ("take", None), ("asks",), ("ASK",), ["ask"], ["look", 1], "ask", ("drop", 1), (None, 1), ((), 1), ("look", [1]),
        ]
        for call, _ in self.calls():
            for at, value in enumerate(wrong):
                ahead = [ASK, take(1), look(3)][:at % 4]
                self.assertEqual(raised(call, 3, ahead + [value, None], None, None), ("BadRow", len(ahead)), value)

    def test_places_of_wishes(self):
        for call, is_bound in self.calls():
            for place in (4, 10, 10 ** 30):
                if is_bound:
                    self.assertEqual(raised(call, 3, [take(3), look(place)], None, None), ("BadRow", 1))
        self.assertEqual(finds(3, [look(10 ** 30 - 1)], (), 0), [[("none",)]])

    def test_loose(self):
        for call, _ in self.calls()[:4]:
            for value in objects() + [[1], (2, 1), (1, 1), (4,), (0,), (True,), (1, 10 ** 30), ("1",), (None,)]:
                if not (type(value) is tuple and list(value) in ([], [1], [2], [3], [1, 2], [1, 3], [2, 3], [1, 2, 3])
                        and True not in [item is True for item in value]):
                    self.assertEqual(raised(call, 3, [ASK], value, None), ("BadValue", "loose"), value)

    def test_k(self):
        for call, _ in self.calls()[:4]:
            for value in objects() + [3, -1, 10 ** 30]:
                if not (is_whole(value, 0) and value <= 2):
                    self.assertEqual(raised(call, 3, [ASK], (1,), value), ("BadValue", "k"))
        self.assertRaises(BadValue, finds, 3, [], (), True)

    def test_fate(self):
        row = [ASK, look(1), look(2)]
        wrong = objects() + [
            [], ((1, 0), (2, 0), (3, 0)), ((1, 3),), ((1, -1),), ((4, 0),), ((2, 0), (1, 0)), ((1, 0), (1, 1)), ((True, 0),),
            ((1, False),), ([1, 0],), ((1,),), ((1, 0, 0),), (1, 0), ((1, None),), (("1", 0),), ((0, 0),), [(1, 0)],
            (((1, 0),),),
        ]
        for value in wrong:
            if value != ():
                self.assertEqual(raised(played, 3, row, (1, 2, 3), 2, value), ("BadValue", "fate"), value)
        self.assertEqual(raised(played, 3, row, (1, 2), 2, ((3, 0),)), ("BadValue", "fate"))
        self.assertEqual(raised(played, 3, row, (1, 2), 1, ((1, 0), (2, 0))), ("BadValue", "fate"))
        self.assertEqual(raised(played, 3, row, (1, 2), 0, ((1, 0),)), ("BadValue", "fate"))
        self.assertEqual(raised(played, 3, [], (1, 2), 2, ((1, 0),)), ("BadValue", "fate"))
        self.assertEqual(played(3, row, (1, 2), 2, ((1, 2), (2, 0))), [None, ("here", 1), ("here", 3)])

    def test_order(self):
        self.assertEqual(raised(played, 0, 1, 1, 9, 1), ("BadNumber", 0))
        self.assertEqual(raised(played, 1, [look(1), 5], 1, 9, 1), ("BadRow", 1))
        self.assertEqual(raised(played, 1, [look(1)], 1, 9, 1), ("BadValue", "loose"))
        self.assertEqual(raised(played, 1, [look(1)], (1,), 9, 1), ("BadValue", "k"))
        self.assertEqual(raised(played, 1, [look(1)], (1,), 1, 1), ("BadValue", "fate"))


if __name__ == "__main__":
    unittest.main()
