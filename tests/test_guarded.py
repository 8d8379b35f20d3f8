"""[7.1] to [7.4]: changes that are done unless a letter was changed, and rows of clients."""

import copy
import itertools
import random
import unittest

from mailtide.errors import BadDeed, BadFolder, BadRow, BadSigns, BadValue, TooLarge
from mailtide.folders import Folder
from mailtide.guarded import (
    guarded_end, harmful, lost, most_tries, plain_end, serial, unless, wished, worst_row,
)
from tests.test_folders import SIX, state, three
from tests.wrong import is_numbers, is_signs, is_whole, objects, raised

NAMES = "abc"


def all_wishes(names=NAMES):
    """All wishes with these signs."""
    wishes = [(word, sign) for word in ("add", "take", "flip") for sign in names]
    return wishes + [(word, *signs) for word in ("turn", "shy") for signs in itertools.permutations(names, 2)]


def wish_of(signs, wish):
    """The signs behind a wish, as the document words it."""
    found, (word, sign, *other) = set(signs), wish
    if word == "add" or word == "flip" and sign not in signs or word == "shy" and other[0] not in signs:
        found.add(sign)
    elif word in ("take", "flip"):
        found.discard(sign)
    elif word == "turn" and sign in signs:
        found = found - {sign} | set(other)
    return tuple(sorted(found))


def is_wish(value):
    """Whether the value is a wish, as the document words it."""
    if type(value) is not tuple or not value or type(value[0]) is not str or len(value) < 2:
        return False
    many = {"add": 1, "take": 1, "flip": 1, "turn": 2, "shy": 2}.get(value[0])
    return many == len(value) - 1 and all(is_signs((sign,)) for sign in value[1:]) and len(set(value[1:])) == many


def plain(signs, wishes, row):
    """The signs behind a row of plain clients."""
    read = {}
    for client in row:
        if client in read:
            signs = wish_of(read[client], wishes[client])
        else:
            read[client] = signs
    return signs


def guarded(signs, wishes, row):
    """What comes of a row of guarded clients at a folder's letter, and how many tries they make."""
    folder, read, order, tries = Folder(1).appended(0, signs), {}, [], 0
    for client in row:
        if client not in order:
            if client not in read:
                read[client] = (folder.letters()[0][2], folder.mark())
                continue
            seen, mark = read.pop(client)
            tries += 1
            folder, refused, _ = unless(folder, (1,), mark, ("set", wish_of(seen, wishes[client])))
            if not refused:
                order.append(client)
    rest = tuple(client for client in range(len(wishes)) if client not in order)
    return (folder.letters()[0][2], tuple(order), rest), tries


def rows_of(many):
    """All rows in which each client stands twice, ascending."""
    return sorted(set(itertools.permutations([client for client in range(many) for _ in range(2)])))


def searched_lost(signs, wishes):
    fair = {serial(signs, wishes, order) for order in itertools.permutations(range(len(wishes)))}
    return next((row for row in rows_of(len(wishes)) if plain(signs, wishes, row) not in fair), None)


def searched_tries(signs, wishes):
    """The most tries over all rows, by a search through all that can be the case."""
    known = {}

    def most(now, clients):
        # A client is idle, has read the letter as it is (fresh) or was (old), or is through.
        state = (now, clients)
        if state not in known:
            known[state] = 0
            for at, word in enumerate(clients):
                if word == "through":
                    continue
                later, rest = now, list(clients)
                rest[at] = {"idle": "fresh", "old": "idle", "fresh": "through"}[word]
                if word == "fresh":
                    later = wish_of(now, wishes[at])
                    if later != now:
                        rest = ["old" if other == "fresh" else other for other in rest]
                known[state] = max(known[state], (word != "idle") + most(later, tuple(rest)))
        return known[state]

    return most(signs, ("idle",) * len(wishes))


def drawn(chance, most=4, names=NAMES):
    """Signs and some wishes."""
    signs = tuple(sign for sign in names if chance.random() < 0.4)
    return signs, [chance.choice(all_wishes(names)) for _ in range(chance.randint(0, most))]


class Unless(unittest.TestCase):

    def setUp(self):
        self.folder = three().added((1,), "z")

    def test_each_kind(self):
        folder, refused, done = unless(self.folder, [3, 2, 1], 4, ("add", "b"))
        self.assertEqual((refused, done), ((), ((1, 5),)))
        self.assertEqual(folder, self.folder.added((1, 2, 3), "b"))
        folder, refused, done = unless(self.folder, (2, 3), 4, ("take", "b"))
        self.assertEqual((folder, refused, done), (self.folder.taken((2, 3), "b"), (), ((2, 5), (3, 6))))
        folder, refused, done = unless(self.folder, (1, 2, 3), 4, ("set", ("b",)))
        self.assertEqual((folder, refused, done), (self.folder.set_to((1, 3), ("b",)), (), ((1, 5), (3, 6))))

    def test_refused(self):
        # The marks of the letters are 4, 2 and 3.
        for mark, refused in ((0, (1, 2, 3)), (1, (1, 2, 3)), (2, (1, 3)), (3, (1,)), (4, ()), (10 ** 30 - 1, ())):
            folder, numbers, done = unless(self.folder, (1, 2, 3), mark, ("set", ("q",)))
            rest = [number for number in (1, 2, 3) if number not in refused]
            self.assertEqual((folder, numbers), (self.folder.set_to(rest, ("q",)), refused))
            self.assertEqual(done, tuple((number, 5 + at) for at, number in enumerate(rest)))

    def test_refused_also_where_nothing_would_change(self):
        self.assertEqual(unless(self.folder, (1,), 3, ("add", "z")), (self.folder, (1,), ()))
        self.assertEqual(unless(self.folder, (1,), 4, ("add", "z")), (self.folder, (), ()))
        self.assertEqual(unless(self.folder, (3,), 4, ("add", "z")), (self.folder, (), ()))

    def test_numbers_not_there_and_twice(self):
        folder, refused, done = unless(self.folder, [9, 2, 1, 2, 9, 1], 2, ("add", "x"))
        self.assertEqual((folder, refused, done), (self.folder.added((2,), "x"), (1,), ((2, 5),)))
        gone = self.folder.removed((2,))
        self.assertEqual(unless(gone, (2, 7), 0, ("add", "x")), (gone, (), ()))
        self.assertEqual(unless(gone, (), 9, ("add", "x")), (gone, (), ()))

    def test_ascending(self):
        folder = Folder(1)
        for _ in range(20):
            folder = folder.appended(0, ())
        numbers = [16, 8, 1, 17, 9]
        self.assertEqual(unless(folder, numbers, 9, ("add", "x"))[1:], ((16, 17), ((1, 21), (8, 22), (9, 23))))

    def test_own_change_moves_the_mark(self):
        folder, _, done = unless(self.folder, (2,), 2, ("add", "x"))
        self.assertEqual(unless(folder, (2,), 2, ("take", "x"))[1:], ((2,), ()))
        self.assertEqual(unless(folder, (2,), done[0][1], ("take", "x"))[1:], ((), ((2, 6),)))

    def test_folder_stays(self):
        kept, numbers = state(self.folder), [3, 1]
        self.assertEqual([type(value) for value in unless(self.folder, numbers, 9, ("set", ()))], [Folder, tuple, tuple])
        self.assertEqual((state(self.folder), numbers), (kept, [3, 1]))

    def test_errors(self):
        for value in objects():
            if not isinstance(value, Folder):
                with self.assertRaises(BadFolder) as caught:
                    unless(value, None, None, None)
                self.assertIs(caught.exception.value, value)
            if not is_numbers(value):
                self.assertEqual(raised(unless, three(), value, None, None), ("BadValue", "numbers"))
            if not is_whole(value, 0):
                self.assertEqual(raised(unless, three(), (1,), value, None), ("BadValue", "mark"))
            self.assertEqual(raised(unless, three(), (9,), 0, value), ("BadDeed", -1))
            for word in ("add", "take", "set"):
                if not (is_signs(value) if word == "set" else is_signs((value,))):
                    self.assertEqual(raised(unless, three(), [], 0, (word, value)), ("BadDeed", -1))
        for value in (("add",), ("set",), ("add", "a", "b"), ("set", (), ()), ["add", "a"], ("flip", "a"), ("set", "a"),
                      ("add", ("a",)), ("remove", (1,)), ("ADD", "a"), (None, "a"), ("take", "abcdefghi"), ("set", ("b", "a")),
                      ("set", (*SIX, "g")), ("add", (1,), "a")):
            self.assertEqual(raised(unless, three(), [], 0, value), ("BadDeed", -1), value)
        self.assertRaises(BadValue, unless, three(), [0], 0, None)


class Wished(unittest.TestCase):

    def test_each_kind(self):
        for signs, wish, behind in (
            ((), ("add", "s"), ("s",)), (("s",), ("add", "s"), ("s",)), (("t",), ("add", "s"), ("s", "t")),
            ((), ("take", "s"), ()), (("s", "t"), ("take", "s"), ("t",)),
            ((), ("flip", "s"), ("s",)), (("s", "t"), ("flip", "s"), ("t",)),
            ((), ("turn", "s", "t"), ()), (("s",), ("turn", "s", "t"), ("t",)), (("s", "t"), ("turn", "s", "t"), ("t",)),
            (("t",), ("turn", "s", "t"), ("t",)), (("s",), ("turn", "s", "a"), ("a",)),
            ((), ("shy", "s", "t"), ("s",)), (("t",), ("shy", "s", "t"), ("t",)), (("s",), ("shy", "s", "t"), ("s",)),
            (("s", "t"), ("shy", "s", "t"), ("s", "t")), (SIX, ("turn", "a", "x"), ("b", "c", "d", "e", "f", "x")),
            (SIX, ("flip", "c"), ("a", "b", "d", "e", "f")), (SIX, ("shy", "x", "a"), SIX),
        ):
            self.assertEqual(wished(signs, wish), behind, (signs, wish))

    def test_all(self):
        for many in range(4):
            for signs in itertools.combinations(NAMES, many):
                for wish in all_wishes():
                    self.assertEqual(wished(signs, wish), wish_of(signs, wish))

    def test_errors(self):
        for value in objects() + [("b", "a"), ["a"]]:
            if not is_signs(value):
                with self.assertRaises(BadSigns) as caught:
                    wished(value, None)
                self.assertIs(caught.exception.value, value)
            self.assertEqual(raised(wished, (), value), ("BadDeed", -1))


class WrongWishes(unittest.TestCase):

    def calls(self):
        """All functions of signs and wishes."""
        return [
            lambda signs, wishes: plain_end(signs, wishes, None), lambda signs, wishes: guarded_end(signs, wishes, None),
            lambda signs, wishes: serial(signs, wishes, None), lost, most_tries, worst_row,
        ]

    def wrong(self):
        """Objects that are no wishes."""
        wrong = objects() + [
            ("add",), ("add", "a", "b"), ("flip", "a", "b"), ("turn", "a"), ("shy", "a"), ("turn", "a", "a"), ("shy", "b", "b"),
            ("turn", "a", "b", "c"), ["add", "a"], ("ADD", "a"), ("set", ("a",)), ("add", ("a",)), ("add", ""), ("turn", "a", 1),
            ("shy", None, "a"), ("take", "A"), ("a", "add"), (None, "a"), ("remove", "a"), ("turn", "a", "abcdefghi"),
        ]
        self.assertFalse([value for value in wrong if is_wish(value)])
        return wrong

    def test_signs(self):
        for call in self.calls():
            for value in objects() + [("b", "a"), ["a"], (*SIX, "g")]:
                if not is_signs(value):
                    with self.assertRaises(BadSigns) as caught:
                        call(value, None)
                    self.assertIs(caught.exception.value, value)

    def test_wishes(self):
        fine = ("add", "a")
        for call in self.calls():
            for value in objects():
                if not isinstance(value, (list, tuple)):
                    self.assertEqual(raised(call, (), value), ("BadDeed", -1))
            for at, value in enumerate(self.wrong()):
                self.assertEqual(raised(call, (), [fine] * (at % 6) + [value, None]), ("BadDeed", at % 6), value)
            for many in (5, 6, 9):
                self.assertEqual(raised(call, (), (fine,) * many), ("TooLarge", 4))
        self.assertRaises(TooLarge, lost, (), [fine] * 5)

    def test_harmful(self):
        for value in self.wrong():
            self.assertEqual(raised(harmful, value, None), ("BadDeed", 0))
            self.assertEqual(raised(harmful, ("add", "a"), value), ("BadDeed", 1))
        self.assertRaises(BadDeed, harmful, None, ("add", "a"))

    def test_arguments_stay(self):
        wishes = [("flip", "a"), ("turn", "a", "b")]
        kept = copy.deepcopy(wishes)
        for call in (lost, most_tries, worst_row):
            self.assertEqual(call((), wishes), call((), tuple(wishes)))
        plain_end((), wishes, (0, 1, 0, 1))
        guarded_end((), wishes, (0, 1, 0, 1))
        serial((), wishes, (1, 0))
        self.assertEqual(wishes, kept)


class Rows(unittest.TestCase):

    WISHES = [("flip", "a"), ("flip", "b")]

    def test_example(self):
        self.assertEqual(harmful(*self.WISHES), ((), (0, 1, 0, 1)))
        self.assertEqual(guarded_end((), self.WISHES, (0, 1, 0, 1, 1, 1)), (("a", "b"), (0, 1), ()))
        self.assertEqual(most_tries((), self.WISHES), 3)

    def test_plain_end(self):
        for row, end in (((0, 0, 1, 1), ("a", "b")), ((0, 1, 0, 1), ("b",)), ((0, 1, 1, 0), ("a",)), ((1, 0, 1, 0), ("a",))):
            self.assertEqual(plain_end((), self.WISHES, row), end)
        self.assertEqual(plain_end(("z",), [], ()), ("z",))

    def test_guarded_end(self):
        for row, end in (
            ((), ((), (), (0, 1))), ((0,), ((), (), (0, 1))), ((0, 0), (("a",), (0,), (1,))),
            ((0, 1, 0, 1), (("a",), (0,), (1,))), ((0, 1, 0, 1, 1), (("a",), (0,), (1,))),
            ((1, 0, 1, 0, 0, 1, 1, 0), (("a", "b"), (1, 0), ())),
            # Those that are through are passed over.
            ((0, 0, 0, 0, 1, 0, 1), (("a", "b"), (0, 1), ())),
        ):
            self.assertEqual(guarded_end((), self.WISHES, row), end, row)
        self.assertEqual(guarded_end(("z",), [], ()), (("z",), (), ()))

    def test_a_store_that_changes_nothing_refuses_none(self):
        wishes = [("add", "a"), ("add", "b"), ("take", "c")]
        self.assertEqual(guarded_end(("a",), wishes, (0, 1, 2, 0, 2, 1)), (("a", "b"), (0, 2, 1), ()))

    def test_changed_and_changed_back(self):
        wishes = [("flip", "a"), ("flip", "a"), ("add", "b")]
        self.assertEqual(guarded_end((), wishes, (2, 0, 0, 1, 1, 2)), ((), (0, 1), (2,)))
        self.assertEqual(plain_end((), wishes, (2, 0, 0, 1, 1, 2)), ("b",))

    def test_serial(self):
        wishes = [("flip", "a"), ("turn", "a", "b"), ("shy", "c", "b")]
        self.assertEqual(serial((), wishes, (0, 1, 2)), ("b",))
        self.assertEqual(serial((), wishes, (2, 1, 0)), ("a", "c"))
        self.assertEqual(serial((), wishes, (2, 0)), ("a", "c"))
        self.assertEqual(serial(("z",), wishes, ()), ("z",))

    def test_no_rows(self):
        for call in (plain_end, guarded_end, serial):
            for value in objects():
                if not isinstance(value, tuple):
                    self.assertEqual(raised(call, (), self.WISHES, value), ("BadRow", -1))
        self.assertRaises(BadRow, serial, (), self.WISHES, [0, 1])

    def test_no_clients(self):
        for value in objects() + [2, -1]:
            if not (is_whole(value, 0) and value < 2):
                for call in (plain_end, guarded_end):
                    self.assertEqual(raised(call, (), self.WISHES, (0, 1, 1, value, None)), ("BadRow", 3))
                    self.assertEqual(raised(call, (), [], (value,)), ("BadRow", 0))
                self.assertEqual(raised(serial, (), self.WISHES, (0, value)), ("BadRow", -1))

    def test_clients_that_stand_too_often_or_not_often_enough(self):
        for row, at in (((0, 0, 0), 2), ((1, 0, 1, 1, 0), 3), ((0, 1, 0, 1, 0), 4), ((0, 0, 0, 5), 2), ((0, 5, 0, 0), 1),
                        ((), -1), ((0,), -1), ((0, 1, 0), -1), ((1, 1), -1)):
            self.assertEqual(raised(plain_end, (), self.WISHES, row), ("BadRow", at), row)
        for order in ((0, 0), (1, 0, 1), (2,), (0, 1, 2)):
            self.assertEqual(raised(serial, (), self.WISHES, order), ("BadRow", -1))

    def test_against_a_folder(self):
        chance = random.Random(1)
        for _ in range(300):
            signs, wishes = drawn(chance)
            row = tuple(chance.randrange(len(wishes)) for _ in range(chance.randint(0, 14))) if wishes else ()
            end = guarded_end(signs, wishes, row)
            self.assertEqual(end, guarded(signs, wishes, row)[0])
            # The signs are those of the stores in their order.
            self.assertEqual(serial(signs, wishes, end[1]), end[0])
            row = tuple(chance.sample([*range(len(wishes))] * 2, 2 * len(wishes)))
            self.assertEqual(plain_end(signs, wishes, row), plain(signs, wishes, row))
            order = chance.sample(range(len(wishes)), chance.randint(0, len(wishes)))
            expected = signs
            for client in order:
                expected = wish_of(expected, wishes[client])
            self.assertEqual(serial(signs, wishes, tuple(order)), expected)


class Lost(unittest.TestCase):

    def test_none(self):
        self.assertIsNone(lost((), []))
        self.assertIsNone(lost((), [("flip", "a")]))
        self.assertIsNone(lost((), [("add", "a")] * 4))
        self.assertIsNone(lost(("a", "b"), [("add", "a"), ("add", "b")]))

    def test_least_rows(self):
        self.assertEqual(lost((), [("add", "a"), ("add", "b")]), (0, 1, 0, 1))
        self.assertEqual(lost((), [("add", "a"), ("add", "b"), ("add", "c")]), (0, 0, 1, 2, 1, 2))
        self.assertEqual(lost((), [("add", letter) for letter in "abcd"]), (0, 0, 1, 1, 2, 3, 2, 3))
        self.assertEqual(lost((), [("flip", "a"), ("flip", "a")]), (0, 1, 0, 1))
        # Also a store of signs as they were undoes what another one did.
        self.assertEqual(lost(("a",), [("add", "a"), ("add", "b")]), (0, 1, 1, 0))

    def test_up_to_three_clients_against_all_rows(self):
        chance = random.Random(2)
        for _ in range(300):
            signs, wishes = drawn(chance, 3)
            self.assertEqual(lost(signs, wishes), searched_lost(signs, wishes), (signs, wishes))

    def test_four_clients(self):
        chance = random.Random(3)
        for _ in range(25):
            signs, wishes = drawn(chance)
            row = lost(signs, wishes)
            fair = {serial(signs, wishes, order) for order in itertools.permutations(range(len(wishes)))}
            if row is not None:
                self.assertNotIn(plain_end(signs, wishes, row), fair)
            for _ in range(60):
                other = tuple(chance.sample([*range(len(wishes))] * 2, 2 * len(wishes)))
                if row is None or other < row:
                    self.assertIn(plain_end(signs, wishes, other), fair)

    def test_all_pairs(self):
        for one, other in itertools.product(all_wishes("ab"), all_wishes("abc")):
            names = sorted({*one[1:], *other[1:]})
            found = None
            for many in range(len(names) + 1):
                for signs in itertools.combinations(names, many):
                    row = searched_lost(signs, [one, other])
                    if found is None and row is not None:
                        found = (signs, row)
            self.assertEqual(harmful(one, other), found, (one, other))

    def test_wishes_with_four_signs(self):
        self.assertEqual(harmful(("turn", "a", "b"), ("turn", "c", "d")), (("a",), (0, 1, 0, 1)))
        self.assertEqual(harmful(("take", "a"), ("take", "b")), (("a",), (0, 1, 0, 1)))
        self.assertIsNone(harmful(("add", "a"), ("add", "a")))
        self.assertEqual(harmful(("add", "b"), ("shy", "a", "b")), ((), (0, 1, 0, 1)))


class Tries(unittest.TestCase):

    def test_few(self):
        self.assertEqual((most_tries((), []), worst_row((), [])), (0, ()))
        self.assertEqual((most_tries((), [("add", "a")]), worst_row((), [("add", "a")])), (1, (0, 0)))
        self.assertEqual(most_tries(("a",), [("add", "a")] * 4), 4)
        self.assertEqual(most_tries((), [("add", "a")] * 4), 7)
        self.assertEqual(most_tries((), [("flip", "a")] * 4), 10)

    def test_against_all_rows(self):
        chance = random.Random(4)
        for _ in range(300):
            signs, wishes = drawn(chance)
            many = most_tries(signs, wishes)
            self.assertEqual(many, searched_tries(signs, wishes), (signs, wishes))
            row = worst_row(signs, wishes)
            self.assertIs(type(row), tuple)
            end, tries = guarded(signs, wishes, row)
            self.assertEqual((tries, end[2]), (many, ()))
            self.assertEqual(guarded_end(signs, wishes, row), end)

    def test_facts(self):
        chance = random.Random(5)
        for _ in range(300):
            signs, wishes = drawn(chance)
            many, tries = len(wishes), most_tries(signs, wishes)
            self.assertTrue(many <= tries <= many * (many + 1) // 2)
            is_most = False
            for order in itertools.permutations(range(many)):
                behind = [serial(signs, wishes, order[:at]) for at in range(many)]
                is_most = is_most or all(one != other for one, other in zip(behind, behind[1:]))
            self.assertEqual(tries == many * (many + 1) // 2, is_most)


if __name__ == "__main__":
    unittest.main()
