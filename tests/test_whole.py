"""[0.1] to [0.6] over the whole program: each name of the interface, called with objects of every built-in type."""

import copy
import importlib
import inspect
import itertools
import unittest

from mailtide import errors
from mailtide.copies import Copy, copy_of
from mailtide.folders import Folder
from mailtide.search import Kept
from mailtide.views import Session
from mailtide.world import World
from tests.test_folders import state, three
from tests.test_language import INTERFACE, METHODS_OF
from tests.wrong import objects

THERE = (1, 2, 5)
ENTRIES = [(1, (), 1), (2, ("a",), 2)]
VIEW = (4, 0, ())
ANSWER = (0, 3, (), ())
LINES = ["> ask", "< done 3 4"]
ROW = [("copy", 1), ("remove", (2,))]
KEY = ("and", (("sign", "b"), ("since", 1)))
SIGHT = (1, 1, 2, 1)


def world():
    """A world in which a step has something to send."""
    made = World(["a", "b"], 2)
    made.act("a", ("append", 1, ("x",)))
    made.fetch(0, "a")
    made.make(0, "a", 3, ())
    return made


def samples():
    """For each function and class of the interface arguments that it takes, new ones."""
    folder, held = three(), copy_of(three()).wanting(1, ("q",))
    return {
        "sets": {
            "meant": ("1,3:*", THERE), "shortest": ((1, 2), THERE), "count_shortest": ([1], list(THERE)), "plain_set": (THERE,),
            "parting": ("1:*", "*"),
        },
        "folders": {"Folder": (1,), "copied": (folder, None, (1,)), "moved": (folder, Folder(1), [1, 9])},
        "histories": {"played": (folder, [("remove", (1,)), ("append", 1, ())])},
        "since": {
            "view_of": (folder,), "view_at": (1, [("append", 1, ())], 1), "followed": (VIEW, ANSWER), "next_numbers": (folder, 2),
            "answer": (folder, 2), "answer_for": (folder, 2, (1, 2)), "is_answer": (folder, 2, ANSWER), "spoiler": (folder, 2, ANSWER),
            "spoils": (folder, 2, ANSWER, [("append", 1, ())]),
        },
        "views": {"applied": (ENTRIES, [("gone", 1)]), "Session": (folder,)},
        "sure": {"sure_mark": (ENTRIES, 2, 3, [("come", 3, (), 3)])},
        "flight": {
            "played": (3, [("look", 2), ("ask",)], (1,), 1, ((1, 0),)), "finds": (3, [("take", 2)], (1,), 1), "turned": (3, [("take", 2)]),
            "by_number": (3, [("take", 2), ("look", 3)], (1,), 1), "doubt": (3, [("look", 2)], (1,), 1),
        },
        "copies": {
            "Copy": (1, 0, [(1, 1, (), ())], [(1, ())]), "copy_of": (folder,), "stepped": (held, folder), "run": ([held], folder, (0,)),
            "least_row": ([held], folder), "end_of": ([held], folder, (0,)), "order_for": ([held], folder, ((1, ("q",)),)),
            "ends": ((held,), folder),
        },
        "guarded": {
            "unless": (folder, [1], 3, ("add", "q")), "wished": ((), ("add", "a")), "plain_end": ((), [("add", "a")], (0, 0)),
            "guarded_end": ((), [("add", "a")], (0, 0)), "serial": ((), [("add", "a")], (0,)), "lost": ((), [("add", "a")]),
            "harmful": (("add", "a"), ("flip", "b")), "most_tries": ((), [("add", "a")]), "worst_row": ((), [("add", "a")]),
        },
        "breaks": {
            "contents": (folder,), "behind": (folder, ROW, 1), "good": (folder, ROW, [("copy", 1)]), "again": (folder, ROW[0], [("copy", 1)]),
            "answer": (folder, ("next",)), "plan": (folder, ROW, [("next",)], [("copy", 1)]),
            "least_questions": (folder, ROW, [("next",)], [("copy", 1)]), "doubt": (folder, ROW, [("next",)], [("copy", 1)]),
        },
        "costs": {
            "worst_case": ({(2, 1): 1}, 2, 1), "least_probes": (4, 2), "least_rounds": (4, 2), "best_paper": (4, 2), "curve": (4, 2),
            "asked_rounds": ({(2, 1): 1}, (True, False)), "way_lines": ("sieve", folder, (1, 2, 3), 2),
            "way_cost": ("probe", folder, [1, 2, 3], 2), "cheapest": (folder, (1, 2, 3), 2),
        },
        "alike": {name: (SIGHT, (1, 2, 3, 4)) for name in ("between", "surely", "most_at_once", "fewest_at_once")} | {
            "ways": (SIGHT, (1, 2, 3, 4), 2),
        },
        "search": {
            "sought": (KEY, folder), "Kept": (KEY, folder), "plain_key": (KEY,), "parted": (KEY, ("all",)),
            "folder_of": (((1, (), 1), (2, ("a",), 3)),), "is_opposite": (KEY, ("all",)), "is_within": (KEY, ("all",)),
        },
        "lines": {"line_of": (("look", 1),), "thing_of": ("> look 1",), "heard": (ENTRIES, ["> ask"])},
        "judge": {name: (folder, LINES, [("append", 1, ())]) for name in ("placings", "first_placing", "wrong_line")} | {
            "sure_marks": (folder, LINES), "transcript": (folder, [("send", ("ask",)), ("answer",)]),
        },
        "world": {"World": (["a", "b"], 2)},
        "pictures": {"picture": (world(),)},
    }


def method_samples():
    """For each class of the interface how to make an object, and arguments of its methods."""
    numbers = {"added": ([1], "q"), "taken": ([1], "b"), "set_to": ([1], ("q",)), "removed": ([1, 9],), "trimmed": (2,)}
    return {
        "folders.Folder": (three, numbers | {"appended": (1, ("a",))}),
        "views.Session": (lambda: Session(three()), {"see": (three(),), "tell": ([("gone", 1)], True)}),
        "copies.Copy": (lambda: copy_of(three()), {"wanting": (1, ("q",)), "dropping": (1,), "making": (1, ())}),
        "search.Kept": (lambda: Kept(KEY, three()), {"follow": (three(),)}),
        "world.World": (world, {
            "folder": ("a",), "copy": (0, "a"), "act": ("a", ("append", 1, ())), "remake": ("a",), "swap": ("a", "b"), "fetch": (0, "a"),
            "want": (0, "a", 1, ("q",)), "drop": (0, "a", 1), "make": (0, "a", 1, ()), "breaks": (0, "a", 1), "step": (0, "a"),
            "doubled": (0, "a", 1), "safe_trim": ("a",),
        }),
    }


def told(value, depth=12):
    """What a value tells that a call might have changed, as plain values; some values have themselves in them."""
    if depth == 0:
        return id(value)
    if isinstance(value, Folder):
        return ("folder", state(value))
    if isinstance(value, Copy):
        return ("copy", value.age(), value.mark(), value.letters(), value.made())
    if isinstance(value, (Session, Kept, World)):
        return (type(value).__name__, {name: told(worth, depth - 1) for name, worth in vars(value).items()})
    if isinstance(value, (list, tuple)):
        return [type(value).__name__, *[told(item, depth - 1) for item in value]]
    if isinstance(value, dict):
        return [(told(key, depth - 1), told(worth, depth - 1)) for key, worth in value.items()]
    return value if isinstance(value, (int, str, type(None))) else id(value)


def outcome(call, arguments):
    """What a call raises, as (the error's class, its field), or None."""
    try:
        call(*arguments)
    except errors.TideError as error:
        field = [vars(error)[name] for name in ("value", "at", "why", "limit") if name in vars(error)][0]
        return (type(error), field if isinstance(field, (int, str)) else id(field))
    return None


def calls():
    """All functions, classes and methods, each as (its name, how to make it, how to make arguments)."""
    rows = []
    for module, table in samples().items():
        for name in table:
            function = getattr(importlib.import_module(f"mailtide.{module}"), name)
            rows.append((f"{module}.{name}", lambda function=function: function, lambda module=module, name=name: samples()[module][name]))
    for place, (_, table) in method_samples().items():
        for name in table:
            def bound(place=place, name=name):
                return getattr(method_samples()[place][0](), name)
            rows.append((f"{place}.{name}", bound, lambda place=place, name=name: method_samples()[place][1][name]))
    return rows


class Whole(unittest.TestCase):

    def test_samples_are_of_all_names(self):
        self.assertEqual(set(samples()), set(INTERFACE) - {"errors"})
        for module, names in INTERFACE.items():
            if module != "errors":
                self.assertEqual(set(samples()[module]), set(names.split()))
        for place, rows in METHODS_OF.items():
            names = {row.split("(")[0] for row in rows.split(") ") if "()" not in row + ")"}
            self.assertEqual(set(method_samples()[place][1]), names, place)

    def test_samples_can_be_called(self):
        for name, call, arguments in calls():
            self.assertIsNone(outcome(call(), arguments()), name)

    def test_objects_of_every_kind(self):
        raised = 0
        for name, call, arguments in calls():
            many = len(arguments())
            for at in range(many):
                for turn in range(len(objects())):
                    rows = list(arguments())
                    rows[at] = objects()[turn]
                    function = call()
                    holder = getattr(function, "__self__", None)
                    ahead = told(rows), told(holder)
                    # Whatever else comes out of it is not of the document, and fails the test.
                    found = outcome(function, rows)
                    if found is not None or holder is None:
                        self.assertEqual((told(rows), told(holder)), ahead, (name, at, turn))
                    raised += found is not None
        self.assertGreater(raised, 5000)

    def test_the_first_wrong_argument_decides(self):
        # Some of the objects are fine here, and only a later argument is not any more.
        fine = {
            ("views.applied", 0), ("sure.sure_mark", 1), ("sure.sure_mark", 2), ("flight.played", 1), ("flight.played", 2),
            ("flight.turned", 0), ("flight.by_number", 0), ("copies.run", 0), ("copies.end_of", 0), ("guarded.plain_end", 1),
            ("guarded.guarded_end", 1), ("costs.way_lines", 1), ("costs.way_cost", 1), ("costs.cheapest", 0),
        } | {(f"world.World.{name}", 0) for name in ("want", "drop", "make", "breaks", "step", "doubled")}
        for name, call, arguments in calls():
            for at, turn in itertools.product(range(len(arguments())), range(len(objects()))):
                value = objects()[turn]
                rows = list(arguments())
                rows[at] = value
                alone = outcome(call(), rows)
                is_plain = isinstance(value, (int, list, tuple, Folder)) or value is None
                # The pattern goes ahead of the paper.
                if alone is None or (name, at) in fine and is_plain or name == "costs.asked_rounds":
                    continue
                behind = outcome(call(), rows[:at + 1] + [object() for _ in rows[at + 1:]])
                self.assertEqual(behind, alone, (name, at, value))

    def test_wrong_objects_within(self):
        # Lists and tuples with a wrong object in each place in them, however deep.
        many = 0
        for name, call, arguments in calls():
            for at, argument in enumerate(arguments()):
                for turn in range(len(objects())):
                    for spoilt in self.with_one(argument, lambda turn=turn: objects()[turn]):
                        rows = list(arguments())
                        rows[at] = spoilt
                        function = call()
                        holder = getattr(function, "__self__", None)
                        ahead = told(rows), told(holder)
                        if outcome(function, rows) is not None or holder is None:
                            self.assertEqual((told(rows), told(holder)), ahead, (name, at, turn))
                        many += 1
        self.assertGreater(many, 10000)

    def with_one(self, value, other):
        """All lists or tuples that have another object in one place."""
        if isinstance(value, (list, tuple)):
            for at, item in enumerate(value):
                for spoilt in [other(), *self.with_one(item, other)]:
                    yield type(value)([*value[:at], spoilt, *value[at + 1:]])

    def test_what_is_told_may_be_changed(self):
        for name, call, arguments in calls():
            rows = arguments()
            function = call()
            holder = getattr(function, "__self__", None)
            found = function(*rows)
            ahead = told(rows), told(holder)
            self.spoil(found)
            self.assertEqual((told(rows), told(holder)), ahead, name)
            if holder is None:
                again = function(*arguments())
                self.assertEqual(told(again), told(function(*rows)), name)

    def spoil(self, value):
        """Change all lists and dicts that a value has."""
        if isinstance(value, (list, tuple, dict)):
            for item in list(value.values()) if isinstance(value, dict) else value:
                self.spoil(item)
            if not isinstance(value, tuple):
                value.clear()

    def test_lists_that_were_handed_in_may_be_changed(self):
        numbers, letters, made, names = [1, 2], [(1, 1, (), ())], [(1, ())], ["a"]
        held = Copy(1, 0, letters, made)
        folder = three().removed(numbers)
        there = World(names, 1)
        session = Session(three())
        notices = [("gone", 1), ("gone", 1)]
        session.see(folder)
        session.tell(notices, True)
        ahead = copy.deepcopy((told(held), told(folder), told(there), told(session)))
        for rows in (numbers, letters, made, names, notices):
            rows.clear()
        self.assertEqual((told(held), told(folder), told(there), told(session)), ahead)


class Errors(unittest.TestCase):

    def test_none_is_below_another_one(self):
        own = [thing for _, thing in inspect.getmembers(errors, inspect.isclass)]
        self.assertEqual(len(own), 13)
        for one in own:
            self.assertEqual(one.__bases__, (ValueError,) if one is errors.TideError else (errors.TideError,))
        below = [one for one in own if one is not errors.TideError]
        for one, other in itertools.permutations(below, 2):
            self.assertFalse(issubclass(one, other))

    def test_nothing_else_is_an_error_of_the_package(self):
        for module in samples():
            found = importlib.import_module(f"mailtide.{module}")
            for _, thing in inspect.getmembers(found, inspect.isclass):
                if issubclass(thing, Exception):
                    self.assertEqual(thing.__module__, "mailtide.errors")


if __name__ == "__main__":
    unittest.main()
