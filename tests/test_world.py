"""[13.1] to [13.7]: worlds of clients, against a plain model, and pictures of them."""

import copy
import itertools
import random
import unittest

from mailtide.copies import Copy, copy_of, least_row, stepped
from mailtide.errors import BadCopy, BadDeed, BadNumber, BadSigns, BadValue
from mailtide.folders import Folder
from mailtide.histories import played
from mailtide.pictures import picture
from mailtide.world import World
from tests.drawn import some_deed, some_signs
from tests.test_folders import SIX, state
from tests.test_histories import is_deed
from tests.wrong import is_sign, is_signs, is_whole, objects, raised


def copy_state(found):
    """All that a copy tells."""
    return found and (found.age(), found.mark(), found.letters(), found.made())


def seen(world, names, clients):
    """All that a world tells."""
    folders = [state(world.folder(name)) for name in names]
    return (folders, [copy_state(world.copy(client, name)) for client in range(clients) for name in names], picture(world))


class Model:
    """A world as the document words it: its copies are dicts of (body, base, wanted)."""

    def __init__(self, names, clients):
        self.names, self.clients = list(names), clients
        self.folders = {name: Folder(age) for age, name in enumerate(names, 1)}
        self.ages = set(range(1, len(names) + 1))
        self.copies = {}

    def remake(self, name):
        age = next(age for age in itertools.count(1) if age not in self.ages)
        self.ages.add(age)
        self.folders[name] = Folder(age)

    def swap(self, name, other):
        self.folders[name], self.folders[other] = self.folders[other], self.folders[name]

    def fetched(self, name):
        folder = self.folders[name]
        rows = {number: (body, signs, signs) for number, body, signs, _ in folder.letters()}
        return [folder.age(), folder.mark(), rows, []]

    def sent(self, client, name):
        age, _, rows, made = self.copies[client, name]
        folder = self.folders[name]
        there = {letter[0]: letter[2] for letter in folder.letters()}
        deeds = []
        if age == folder.age():
            known = [number for number in sorted(rows) if number in there]
            for number in known:
                _, base, wanted = rows[number]
                if wanted is not None:
                    deeds += [("add", (number,), sign) for sign in sorted(set(wanted) - set(base) - set(there[number]))]
                    deeds += [("take", (number,), sign) for sign in sorted((set(base) - set(wanted)) & set(there[number]))]
            deeds += [("remove", (number,)) for number in known if rows[number][2] is None]
        return deeds + [("append", *row) for row in made]

    def step(self, client, name):
        age, mark, rows, _ = self.copies[client, name]
        folder, sent = self.folders[name], self.sent(client, name)
        there = [letter[0] for letter in folder.letters()]
        lost = [number for number in rows if rows[number][1] != rows[number][2] and (age != folder.age() or number not in there)]
        if age != folder.age():
            told = ("anew", tuple(there), ())
        else:
            changed = tuple(letter[0] for letter in folder.letters() if letter[3] > mark)
            told = ("log" if folder.cut() <= mark else "known", changed, tuple(sorted(set(rows) - set(there))))
        self.folders[name] = played(folder, sent)
        self.copies[client, name] = self.fetched(name)
        return (told, tuple(sent), tuple(sorted(lost)))

    def in_step(self, key):
        return self.copies[key] == self.fetched(key[1])

    def settle(self):
        row = []
        while not all(map(self.in_step, self.copies)):
            for client in range(self.clients):
                for name in sorted(self.names):
                    if (client, name) in self.copies and not self.in_step((client, name)):
                        self.step(client, name)
                        row.append((client, name))
        return row

    def seen(self):
        rows = []
        for client in range(self.clients):
            for name in self.names:
                found = self.copies.get((client, name))
                rows.append(found and (found[0], found[1], [(n, *found[2][n]) for n in sorted(found[2])], found[3]))
        return ([state(self.folders[name]) for name in self.names], rows, self.picture())

    def picture(self):
        text = ""
        for name in sorted(self.names):
            folder = self.folders[name]
            text += f"{name} age {folder.age()} mark {folder.mark()} next {folder.next_number()} cut {folder.cut()}\n"
            for number, body, signs, mark in folder.letters():
                text += f"  {number} {body} {','.join(signs) or '-'} {mark}\n"
            for client in range(self.clients):
                if (client, name) in self.copies:
                    age, mark, rows, made = self.copies[client, name]
                    text += f"  client {client} age {age} mark {mark}\n"
                    for number, (_, base, wanted) in sorted(rows.items()):
                        if wanted != base:
                            text += f"    {number} {','.join(base) or '-'} to {'gone' if wanted is None else ','.join(wanted) or '-'}\n"
                    text += "".join(f"    made {body} {','.join(signs) or '-'}\n" for body, signs in made)
        return text


def some_call(chance, model, trims=True):
    """A call that can be done, as (its name, its arguments)."""
    name, client = chance.choice(model.names), chance.randrange(model.clients)
    held = model.copies.get((client, name))
    words = ["act"] * 6 + ["fetch", "remake"] + ["swap"] * 2 * (len(model.names) > 1)
    words += (["want", "drop", "make"] * 2 + ["step", "breaks", "settle"]) if held else ["fetch"] * 4
    word = chance.choice(words)
    number = chance.choice(sorted(held[2])) if held and held[2] else None
    if word in ("want", "drop") and number is None:
        word = "make"
    return word, {
        "act": lambda: (name, some_deed(chance, model.folders[name], trims, "ab")), "remake": lambda: (name,),
        "swap": lambda: (name, chance.choice([other for other in model.names if other != name])), "fetch": lambda: (client, name),
        "want": lambda: (client, name, number, some_signs(chance, "abc")), "drop": lambda: (client, name, number),
        "make": lambda: (client, name, chance.randint(0, 3), some_signs(chance, "ab")), "step": lambda: (client, name),
        "breaks": lambda: (client, name, chance.randint(0, len(model.sent(client, name)))), "settle": lambda: (),
    }[word]()


def do(model, word, rest):
    """Do a call to the model."""
    if word == "act":
        model.folders[rest[0]] = played(model.folders[rest[0]], [rest[1]])
    elif word == "fetch":
        model.copies[rest] = model.fetched(rest[1])
    elif word in ("want", "drop"):
        rows = model.copies[rest[:2]][2]
        rows[rest[2]] = rows[rest[2]][:2] + (rest[3] if word == "want" else None,)
    elif word == "make":
        model.copies[rest[:2]][3].append(rest[2:])
    elif word == "breaks":
        model.folders[rest[1]] = played(model.folders[rest[1]], model.sent(*rest[:2])[:rest[2]])
    else:
        return getattr(model, word)(*rest)
    return None


def drawn(chance, calls, most_names=3, most_clients=3, trims=True):
    """A world and its model, behind some calls."""
    names = chance.sample(["a", "b", "zz", "inbox"], chance.randint(1, most_names))
    clients = chance.randint(1, most_clients)
    world, model = World(chance.choice((list, tuple))(names), clients), Model(names, clients)
    for _ in range(calls):
        word, rest = some_call(chance, model, trims)
        getattr(world, word)(*rest)
        do(model, word, rest)
    return world, model


def search_steps(model):
    """The fewest steps that bring rest, and the first row of so many, by a search through all shorter rows."""
    rows = [((), model)]
    while True:
        found = [row for row, now in rows if all(map(now.in_step, now.copies))]
        if found:
            return (len(min(found)), min(found))
        later = []
        for row, now in rows:
            for key in sorted(now.copies):
                behind = copy.deepcopy(now)
                behind.step(*key)
                later.append((row + (key,), behind))
        rows = later


class Worlds(unittest.TestCase):

    def test_new(self):
        world = World(["b", "a", "c"], 2)
        self.assertEqual([world.folder(name) for name in "bac"], [Folder(1), Folder(2), Folder(3)])
        self.assertEqual([world.copy(client, name) for client in (0, 1) for name in "abc"], [None] * 6)
        self.assertEqual([world.settle(), world.least_steps()], [[], (0, ())])
        self.assertEqual([world.safe_trim(name) for name in "abc"], [0, 0, 0])
        for clients in (1, 2, 3, 4):
            World(("a", "b", "c", "abcdefgh"), clients).copy(clients - 1, "a")

    def test_drawn_calls_against_a_model(self):
        chance = random.Random(130)
        for _ in range(60):
            names = chance.sample(["a", "b", "zz", "inbox"], chance.randint(1, 3))
            clients = chance.randint(1, 3)
            world, model = World(names, clients), Model(names, clients)
            for _ in range(40):
                word, rest = some_call(chance, model)
                self.assertEqual(getattr(world, word)(*rest), do(model, word, rest), (word, rest))
                self.assertEqual(seen(world, names, clients), model.seen())

    def test_each_call(self):
        world = World(["a", "b"], 2)
        self.assertIsNone(world.act("a", ("append", 4, ("x",))))
        self.assertIsNone(world.act("a", ("append", 5, ())))
        self.assertIsNone(world.fetch(0, "a"))
        self.assertEqual(world.copy(0, "a"), copy_of(world.folder("a")))
        self.assertIsNone(world.want(0, "a", 1, ("y",)))
        self.assertIsNone(world.drop(0, "a", 2))
        self.assertIsNone(world.make(0, "a", 7, ("z",)))
        self.assertEqual(copy_state(world.copy(0, "a")), (1, 2, [(1, 4, ("x",), ("y",)), (2, 5, (), None)], [(7, ("z",))]))
        self.assertIsNone(world.copy(1, "a"))
        world.act("a", ("add", [2, 1], "q"))
        sent = (("add", (1,), "y"), ("take", (1,), "x"), ("remove", (2,)), ("append", 7, ("z",)))
        self.assertEqual(world.step(0, "a"), (("log", (1, 2), ()), sent, ()))
        self.assertEqual(world.folder("a").letters(), [(1, 4, ("q", "y"), 6), (3, 7, ("z",), 8)])
        self.assertEqual(world.step(0, "a"), (("log", (), ()), (), ()))
        self.assertEqual(world.folder("b"), Folder(2))

    def test_fetch_forgets_what_waited(self):
        world = World(["a"], 1)
        world.fetch(0, "a")
        world.make(0, "a", 7, ())
        world.fetch(0, "a")
        self.assertEqual(world.step(0, "a"), (("log", (), ()), (), ()))

    def test_what_the_server_tells(self):
        world = World(["a"], 2)
        for body in range(4):
            world.act("a", ("append", body, ()))
        world.fetch(0, "a")
        world.fetch(1, "a")
        world.act("a", ("remove", (2, 3)))
        world.act("a", ("set", (4,), ("a",)))
        world.drop(0, "a", 3)
        world.want(0, "a", 2, ())
        world.act("a", ("trim", 4))
        self.assertEqual(world.step(0, "a"), (("log", (4,), (2, 3)), (), (3,)))
        world.act("a", ("trim", 5))
        self.assertEqual(world.step(1, "a"), (("known", (4,), (2, 3)), (), ()))
        world.want(0, "a", 1, ("z",))
        world.make(0, "a", 9, ())
        world.remake("a")
        world.act("a", ("append", 0, ()))
        self.assertEqual(world.step(0, "a"), (("anew", (1,), ()), (("append", 9, ()),), (1,)))

    def test_ages(self):
        world = World(["a", "b"], 1)
        world.remake("b")
        world.remake("a")
        world.remake("b")
        self.assertEqual([world.folder(name).age() for name in "ab"], [4, 5])
        world.swap("b", "a")
        self.assertEqual([world.folder(name).age() for name in "ab"], [5, 4])

    def test_names_changed_and_changed_back(self):
        for back in (True, False):
            world = World(["a", "b"], 1)
            world.act("a", ("append", 1, ()))
            world.fetch(0, "a")
            world.want(0, "a", 1, ("x",))
            world.swap("a", "b")
            if back:
                world.swap("a", "b")
                self.assertEqual(world.step(0, "a"), (("log", (), ()), (("add", (1,), "x"),), ()))
            else:
                self.assertEqual(world.step(0, "a"), (("anew", (), ()), (), (1,)))
                self.assertEqual(world.folder("b").letters(), [(1, 1, (), 1)])
                self.assertEqual(world.copy(0, "a").age(), 2)

    def test_breaks_behind_each_number_of_deeds(self):
        chance = random.Random(131)
        for _ in range(60):
            _, model = drawn(chance, 25, 2, 2)
            for client, name in model.copies:
                sent = model.sent(client, name)
                for p in range(len(sent) + 1):
                    # The same world again, as what is done to one must not matter to the next.
                    world, now = self.again(model)
                    self.assertIsNone(world.breaks(client, name, p))
                    do(now, "breaks", (client, name, p))
                    self.assertEqual(seen(world, model.names, model.clients), now.seen())
                    self.assertEqual(world.step(client, name), now.step(client, name))
                    self.assertEqual(seen(world, model.names, model.clients), now.seen())
                for value in (-1, len(sent) + 1, True, None):
                    self.assertEqual(raised(self.again(model)[0].breaks, client, name, value), ("BadValue", "p"))

    def again(self, model):
        """A world that is as this model is."""
        world = World(model.names, model.clients)
        world._folders = dict(model.folders)
        world._copies = {}
        for key, (age, mark, rows, made) in model.copies.items():
            world._copies[key] = Copy(age, mark, [(number, *rows[number]) for number in sorted(rows)], list(made))
        return world, copy.deepcopy(model)

    def test_doubled(self):
        chance = random.Random(132)
        some = 0
        for _ in range(80):
            _, model = drawn(chance, 25, 2, 2)
            for client, name in model.copies:
                sent = model.sent(client, name)
                for p in range(len(sent) + 1):
                    world, now = self.again(model)
                    told = world.doubled(client, name, p)
                    self.assertEqual(seen(world, model.names, model.clients), now.seen())
                    whole = copy.deepcopy(now)
                    whole.step(client, name)
                    do(now, "breaks", (client, name, p))
                    now.step(client, name)
                    once = [letter[1:3] for letter in whole.folders[name].letters()]
                    twice = [letter[1:3] for letter in now.folders[name].letters()]
                    for row in once:
                        twice.remove(row)
                    self.assertEqual(told, sorted(twice))
                    some += len(told) > 1
                self.assertEqual(raised(self.again(model)[0].doubled, client, name, len(sent) + 1), ("BadValue", "p"))
        self.assertGreater(some, 10)

    def test_doubled_ascends(self):
        world = World(["a"], 1)
        world.fetch(0, "a")
        for body, signs in ((7, ("b",)), (3, ()), (7, ()), (3, ())):
            world.make(0, "a", body, signs)
        self.assertEqual(world.doubled(0, "a", 4), [(3, ()), (3, ()), (7, ()), (7, ("b",))])
        self.assertEqual(world.doubled(0, "a", 1), [(7, ("b",))])
        self.assertEqual(world.doubled(0, "a", 0), [])

    def test_settle(self):
        chance = random.Random(133)
        most = 0
        for _ in range(120):
            world, model = drawn(chance, 30, 3, 4)
            row = world.settle()
            self.assertEqual(row, model.settle())
            self.assertEqual(seen(world, model.names, model.clients), model.seen())
            self.assertLessEqual(max([row.count(key) for key in row], default=0), 2)
            for client, name in model.copies:
                self.assertEqual(world.copy(client, name), copy_of(world.folder(name)))
            self.assertEqual(world.settle(), [])
            most = max(most, len(row))
        self.assertGreater(most, 5)

    def test_settle_in_its_rounds(self):
        world = World(["b", "a"], 2)
        for name in "ab":
            world.act(name, ("append", 4, ()))
            for client in (0, 1):
                world.fetch(client, name)
        world.make(1, "b", 1, ())
        world.make(1, "a", 1, ())
        world.make(0, "b", 1, ())
        self.assertEqual(world.settle(), [(0, "b"), (1, "a"), (1, "b"), (0, "a"), (0, "b")])

    def test_least_steps_against_all_shorter_rows(self):
        chance = random.Random(134)
        longest = 0
        for _ in range(150):
            world, model = drawn(chance, 18, 2, 3)
            ahead = seen(world, model.names, model.clients)
            number, row = world.least_steps()
            if number <= 4:
                self.assertEqual((number, row), search_steps(model))
            longest = max(longest, number)
            self.assertEqual(seen(world, model.names, model.clients), ahead)
            total = 0
            for name in model.names:
                copies = [world.copy(client, name) for client in range(model.clients)]
                total += len(least_row([held for held in copies if held is not None], world.folder(name)))
            self.assertEqual((number, len(row)), (total, total))
            for key in row:
                world.step(*key)
            self.assertEqual(world.settle(), [])
        self.assertGreater(longest, 4)

    def test_least_steps_of_many_copies(self):
        world = World(["d", "c", "b", "a"], 4)
        for name in "abcd":
            world.act(name, ("append", 4, ()))
            for client in range(4):
                world.fetch(client, name)
                world.make(client, name, client, ())
        number, row = world.least_steps()
        self.assertEqual(number, 28)
        # Once client 3 has stepped with a name, that name's second steps are less than those of client 3 with others.
        first = [(client, name) for client in range(3) for name in "abcd"]
        self.assertEqual(row, tuple(first + [(client, name) for name in "abcd" for client in (3, 0, 1, 2)]))

    def test_safe_trim_mark_by_mark(self):
        chance = random.Random(135)
        told = set()
        for _ in range(150):
            world, model = drawn(chance, 30, 2, 3)
            for name in model.names:
                folder = model.folders[name]
                found = []
                for mark in range(folder.mark() + 1):
                    later = copy.deepcopy(model)
                    later.folders[name] = folder.trimmed(mark)
                    keys = [key for key in later.copies if key[1] == name]
                    if not any(copy.deepcopy(later).step(*key)[0][0] == "known" for key in keys):
                        found.append(mark)
                self.assertEqual(world.safe_trim(name), max(found, default=None))
                told.add("none" if not found else "all" if max(found) == folder.mark() else "some")
        self.assertEqual(told, {"none", "all", "some"})

    def test_safe_trim_value_by_value(self):
        world = World(["a", "b"], 2)
        for _ in range(3):
            world.act("a", ("append", 0, ()))
        self.assertEqual(world.safe_trim("a"), 3)
        world.fetch(0, "a")
        world.act("a", ("append", 0, ()))
        self.assertEqual(world.safe_trim("a"), 3)
        world.act("a", ("trim", 3))
        self.assertEqual(world.safe_trim("a"), 3)
        world.act("a", ("trim", 4))
        self.assertIsNone(world.safe_trim("a"))
        world.swap("a", "b")
        # The copy is one of another folder now.
        self.assertEqual([world.safe_trim(name) for name in "ab"], [0, 4])

    def test_a_trim_changes_told_words_alone(self):
        chance = random.Random(136)
        for _ in range(60):
            _, model = drawn(chance, 20, 2, 2, trims=False)
            one, now = self.again(model)
            other, later = self.again(model)
            for name in model.names:
                other.act(name, ("trim", chance.randint(0, model.folders[name].mark())))
            self.assertEqual([one.least_steps(), one.copy(0, model.names[0])], [other.least_steps(), other.copy(0, model.names[0])])
            for key in now.copies:
                (told, *rest), (word, *others) = one.step(*key), other.step(*key)
                self.assertEqual((told[1:], rest), (word[1:], others))
            for name in model.names:
                self.assertEqual(one.folder(name).letters(), other.folder(name).letters())
            self.assertEqual(later.names, model.names)

    def test_two_worlds_are_apart(self):
        names = ["a", "b"]
        one, other = World(names, 2), World(names, 2)
        one.act("a", ("append", 1, ()))
        one.fetch(0, "a")
        one.make(0, "a", 1, ())
        one.remake("b")
        self.assertEqual(seen(other, "ab", 2), seen(World(names, 2), "ab", 2))
        names.append("c")
        names[0] = "zzz"
        self.assertEqual(one.folder("a").mark(), 1)
        self.assertEqual(raised(one.folder, "c"), ("BadValue", "name"))

    def test_lists_that_were_told_may_be_changed(self):
        world = World(["a"], 1)
        world.act("a", ("append", 1, ()))
        world.fetch(0, "a")
        world.make(0, "a", 1, ())
        ahead = seen(world, "a", 1)
        world.folder("a").letters().clear()
        world.copy(0, "a").made().clear()
        world.doubled(0, "a", 1).clear()
        self.assertEqual(seen(world, "a", 1), ahead)
        row = world.settle()
        row.clear()
        self.assertEqual(world.settle(), [])


class Errors(unittest.TestCase):

    def test_new(self):
        for value in objects() + [["a", "a"], [], (), ["a", "b", "c", "d", "e"], ["A"], ["abcdefghi"], [""], ["a", 1], [["a"]], "a"]:
            fine = type(value) in (list, tuple) and 1 <= len(value) <= 4 and all(map(is_sign, value)) and len(set(value)) == len(value)
            if not fine:
                self.assertEqual(raised(World, value, 5), ("BadValue", "names"))
        for value in objects() + [5, -1]:
            if not (type(value) is int and 1 <= value <= 4):
                self.assertEqual(raised(World, ["a"], value), ("BadValue", "clients"))

    def world(self):
        world = World(["a", "b"], 2)
        world.act("a", ("append", 1, ("x",)))
        world.fetch(0, "a")
        world.want(0, "a", 1, ())
        world.make(0, "a", 3, ())
        return world

    def test_in_order(self):
        world = self.world()
        ahead = seen(world, "ab", 2)
        first = [world.copy, world.fetch, world.want, world.drop, world.make, world.step, world.breaks, world.doubled]
        rest = {world.want: (5, 5), world.drop: (5,), world.make: (-1, 5), world.breaks: (9,), world.doubled: (9,)}
        for value in objects():
            for call in first:
                more = rest.get(call, ())
                if not (type(value) is int and 0 <= value <= 1):
                    self.assertEqual(raised(call, value, 5, *more), ("BadValue", "client"))
                if value != "a":
                    self.assertEqual(raised(call, 0, value, *more), ("BadValue", "name"))
            if value != "a":
                for call, more in ((world.folder, ()), (world.act, (5,)), (world.remake, ()), (world.swap, (5,)), (world.safe_trim, ())):
                    self.assertEqual(raised(call, value, *more), ("BadValue", "name"))
            if value != "a":
                self.assertEqual(raised(world.swap, "b", value), ("BadValue", "other"))
            if not is_deed(value):
                self.assertEqual(raised(world.act, "a", value), ("BadDeed", -1))
            if value != 1 or type(value) is not int:
                self.assertEqual(raised(world.want, 0, "a", value, 5), ("BadNumber", value))
                self.assertEqual(raised(world.drop, 0, "a", value), ("BadNumber", value))
            if not is_signs(value):
                self.assertEqual(raised(world.want, 0, "a", 1, value), ("BadSigns", value))
                self.assertEqual(raised(world.make, 0, "a", 1, value), ("BadSigns", value))
            if not is_whole(value, 0):
                self.assertEqual(raised(world.make, 0, "a", value, 5), ("BadValue", "body"))
            if not (type(value) is int and 0 <= value <= 2):
                self.assertEqual(raised(world.breaks, 0, "a", value), ("BadValue", "p"))
                self.assertEqual(raised(world.doubled, 0, "a", value), ("BadValue", "p"))
            for call in first[2:]:
                # There is no copy; this goes ahead of all that is behind the name.
                more = tuple(value for _ in rest.get(call, ()))
                self.assertEqual(raised(call, 1, "a", *more), ("BadCopy", None))
                self.assertEqual(raised(call, 0, "b", *more), ("BadCopy", None))
        self.assertEqual(raised(world.swap, "a", "a"), ("BadValue", "other"))
        self.assertEqual(raised(world.swap, "a", "c"), ("BadValue", "other"))
        self.assertEqual(raised(world.act, "a", ("trim", 2)), ("BadDeed", -1))
        self.assertEqual(raised(world.act, "b", ("trim", 1)), ("BadDeed", -1))
        self.assertEqual(raised(world.copy, 2, "a"), ("BadValue", "client"))
        self.assertEqual(raised(world.copy, -1, "a"), ("BadValue", "client"))
        self.assertEqual(seen(world, "ab", 2), ahead)

    def test_what_must_not_change_a_world_does_not(self):
        world = self.world()
        ahead = seen(world, "ab", 2)
        world.folder("a").appended(1, ())
        world.copy(0, "a").making(1, ())
        stepped(world.copy(0, "a"), world.folder("a"))
        world.least_steps()
        world.safe_trim("a")
        world.doubled(0, "a", 2)
        picture(world)
        self.assertEqual(seen(world, "ab", 2), ahead)


class Pictures(unittest.TestCase):

    def test_sign_by_sign(self):
        world = World(["zz", "a"], 2)
        self.assertEqual(picture(world), "a age 2 mark 0 next 1 cut 0\nzz age 1 mark 0 next 1 cut 0\n")
        world.act("zz", ("append", 4, ("x", "y")))
        world.act("zz", ("append", 10 ** 29, ()))
        world.act("zz", ("append", 6, SIX))
        world.fetch(1, "zz")
        world.want(1, "zz", 1, ())
        world.want(1, "zz", 2, ("q", "r"))
        world.drop(1, "zz", 3)
        world.make(1, "zz", 0, ())
        world.make(1, "zz", 8, ("k", "l"))
        world.act("zz", ("remove", (2,)))
        world.act("zz", ("trim", 3))
        world.fetch(0, "a")
        world.fetch(0, "zz")
        world.remake("a")
        self.assertEqual(picture(world), (
            "a age 3 mark 0 next 1 cut 0\n"
            "  client 0 age 2 mark 0\n"
            "zz age 1 mark 4 next 4 cut 3\n"
            "  1 4 x,y 1\n"
            "  3 6 a,b,c,d,e,f 3\n"
            "  client 0 age 1 mark 4\n"
            "  client 1 age 1 mark 3\n"
            "    1 x,y to -\n"
            "    2 - to q,r\n"
            "    3 a,b,c,d,e,f to gone\n"
            "    made 0 -\n"
            "    made 8 k,l\n"
        ))

    def test_wrong(self):
        for value in objects():
            if not isinstance(value, World):
                self.assertEqual(raised(picture, value), ("BadValue", "world"))


if __name__ == "__main__":
    unittest.main()
