"""[12.1] and [12.4]: lines, the things that they tell, and what a client hears of them."""

import copy
import random
import re
import unittest

from mailtide.errors import BadNotice, BadRow, BadText, BadValue
from mailtide.lines import heard, line_of, thing_of
from mailtide.views import applied
from tests.drawn import some_signs
from tests.wrong import is_sign, is_signs, is_whole, objects, raised

LONG = 10 ** 30 - 1

# Each kind of line, with the thing that it tells.
TOLD = {
    "> ask": ("ask",), "> look 1": ("look", 1), f"> look {LONG}": ("look", LONG), "> add 1,2:*,* seen": ("add", "1,2:*,*", "seen"),
    "> take 7 a": ("take", "7", "a"), "> set *:1 -": ("set", "*:1", ()), "> set 1 a,b": ("set", "1", ("a", "b")),
    f"> set {LONG} a,abcdefgh,b,c,d,e": ("set", str(LONG), ("a", "abcdefgh", "b", "c", "d", "e")),
    "> remove *": ("remove", "*"), "> append 0 -": ("append", 0, ()), f"> append {LONG} a": ("append", LONG, ("a",)),
    "< come 1 - 0": ("come", 1, (), 0), f"< come {LONG} a,b {LONG}": ("come", LONG, ("a", "b"), LONG),
    "< letter 2 a 10": ("letter", 2, ("a",), 10), "< gone 3": ("gone", 3), f"< gone {LONG}": ("gone", LONG), "< done 0 1": ("done", 0, 1),
    f"< done {LONG} {LONG}": ("done", LONG, LONG), "< here 5 x 6": ("here", 5, ("x",), 6), "< lost": ("lost",), "< none": ("none",),
    "< ok 0": ("ok", 0), "< ok 5 1": ("ok", 5, 1), f"< ok {LONG} {LONG}": ("ok", LONG, LONG),
}

# Lines that are none, each with the index of the first word that is not as told.
WRONG = {
    "": 0, " ": 0, " > ask": 0, "ask": 0, ">ask": 0, "=": 0, "> ": 1, ">": 1, "<": 1, ">  ask": 1, "> Ask": 1, "> ask ": 2, "> ask 1": 2,
    "< ask": 1, "> come 1 - 1": 1, "> done 1 1": 1, "< append 1 -": 1, "> lost": 1, "< ok": 2, "< ok x": 2, "< ok 1 x": 3, "< ok 1 0": 3,
    "< ok 1 1 1": 4, "< ok 01": 2, "< ok  1": 2, "< ok 1 ": 3, "> look": 2, "> look 0": 2, "> look 01": 2, "> look 1 ": 3, "> look 1 2": 3,
    "> look  1": 2, "> look -1": 2, "> look +1": 2, "> look 1_0": 2, "> look \u0661": 2, "> look \u00b2": 2, f"> look {LONG + 1}": 2,
    "> add": 2, "> add 1": 3, "> add 0 a": 2, "> add 1, a": 2, "> add 1:2:3 a": 2, "> add 1 A": 3, "> add 1 -": 3, "> add 1 a,b": 3,
    "> add 1 abcdefghi": 3, "> add 1 a b": 4, "> add  1 a": 2, "> add x": 2, f"> add {LONG + 1} a": 2, "> set 1": 3, "> set 1 ": 3, "> set 1 b,a": 3,
    "> set 1 a,a": 3, "> set 1 a,b,c,d,e,f,g": 3, "> set 1 a,": 3, "> set 1 -,a": 3, "> set 1 --": 3, "> remove": 2, "> remove -": 2,
    "> remove 1 1": 3, "> append": 2, "> append -": 2, "> append 1": 3, "> append 00 -": 2, "> append 1 - 1": 4, "< come 0 - 1": 2,
    "< come 1 - -1": 4, "< come 1 - 01": 4, "< come 1 -": 4, "< come 1 - 1 1": 5, "< come 1 x y": 4, "< letter 0 - 1": 2, "< letter 1 A 1": 3,
    "< letter 1": 3, "< gone": 2, "< gone 0": 2, "< gone 1 1": 3, "< done 1": 3, "< done 1 0": 3, "< done x 0": 2, "< done 1 1 1": 4,
    "< here": 2, "< here 1 - x": 4, "< here 1 - 1 -": 5, "< lost 1": 2, "< none ": 2, "< None": 1, "> ask\n": 1, "> ask\t": 1, "< gone 1\n": 2,
    "> look " + "9" * 5000: 2, "< ok " + "1" * 5000: 2, "> remove " + "1" * 5000: 2, "> look 1 0 0 0": 3, "> look x 0 0": 2,
}

FORMS = {
    "ask": [], "look": ["number"], "add": ["set", "sign"], "take": ["set", "sign"], "set": ["set", "signs"], "remove": ["set"],
    "append": ["mark", "signs"], "come": ["number", "signs", "mark"], "letter": ["number", "signs", "mark"], "gone": ["number"],
    "done": ["mark", "number"], "here": ["number", "signs", "mark"], "lost": [], "none": [], "ok": ["mark"],
}
COMMANDS = ["ask", "look", "add", "take", "set", "remove", "append"]


def is_told(kind, value):
    """Whether the value is one of this kind, as the document words it."""
    if kind in ("number", "mark"):
        return is_whole(value, 1 if kind == "number" else 0) and value <= LONG
    if kind == "set":
        end = r"(\*|[1-9][0-9]{0,29})"
        return type(value) is str and re.fullmatch(f"{end}(:{end})?(,{end}(:{end})?)*", value) is not None
    return is_sign(value) if kind == "sign" else is_signs(value)


def is_thing(value):
    """Whether the value is a thing, as the document words it."""
    if type(value) is not tuple or not value or type(value[0]) is not str or value[0] not in FORMS:
        return False
    forms = [FORMS[value[0]]] + ([["mark", "number"]] if value[0] == "ok" else [])
    return any(len(form) + 1 == len(value) and all(map(is_told, form, value[1:])) for form in forms)


def some_thing(chance, words=tuple(FORMS)):
    """A thing."""
    word = chance.choice(words)
    form = FORMS[word] + ["number"] * (word == "ok" and chance.random() < 0.5)
    values = {
        "number": lambda: chance.choice((1, 2, 3, 10, LONG)), "mark": lambda: chance.choice((0, 1, 5, 99, LONG)),
        "set": lambda: chance.choice(("1", "*", "1:3", "2,*:9", f"{LONG}:*")), "sign": lambda: chance.choice("abc"),
        "signs": lambda: some_signs(chance),
    }
    return (word, *[values[kind]() for kind in form])


class Lines(unittest.TestCase):

    def test_written_and_read_back(self):
        for line, thing in TOLD.items():
            self.assertEqual((thing_of(line), line_of(thing)), (thing, line))

    def test_drawn(self):
        chance = random.Random(120)
        for _ in range(500):
            thing = some_thing(chance)
            self.assertEqual(thing_of(line_of(thing)), thing)

    def test_wrong_words(self):
        for line, at in WRONG.items():
            self.assertEqual(raised(thing_of, line), ("BadText", at), line)

    def test_spoilt_lines(self):
        chance = random.Random(121)
        for _ in range(300):
            words = line_of(some_thing(chance)).split(" ")
            optional = words[1] == "ok"
            for at in range(len(words)):
                spoilt = words[:at] + [chance.choice(["", "?", "A", "00", "*,", "Ask"])] + words[at + 1:]
                self.assertEqual(raised(thing_of, " ".join(spoilt)), ("BadText", at))
            # One word too many, and too few.
            more = words + ["1"] * (1 if not optional or len(words) == 4 else 2)
            self.assertEqual(raised(thing_of, " ".join(more)), ("BadText", len(more) - 1))
            for many in range(len(words) - (1 if optional and len(words) == 4 else 0)):
                if many:
                    self.assertEqual(raised(thing_of, " ".join(words[:many])), ("BadText", many))
            other = [{">": "<", "<": ">"}[words[0]]] + words[1:]
            self.assertEqual(raised(thing_of, " ".join(other)), ("BadText", 1))

    def test_what_is_no_text(self):
        for value in objects():
            if type(value) is not str:
                self.assertEqual(raised(thing_of, value), ("BadText", -1))

    def test_what_is_no_thing(self):
        wrong = [
            ("ask", 1), ["ask"], ("look", 0), ("look", True), ("look", "1"), ("look", LONG + 1), ("add", "1"), ("add", (1,), "a"),
            ("add", "0", "a"), ("add", "1", ("a",)), ("set", "1", "a"), ("set", "1", ["a"]), ("set", "1", ("b", "a")), ("remove", 1),
            ("append", -1, ()), ("append", 0), ("append", LONG + 1, ()), ("come", 0, (), 1), ("come", 1, (), -1), ("come", 1, 1, 1),
            ("letter", 1, (), LONG + 1), ("gone", None), ("done", 1), ("done", 1, 0), ("done", 1, 1, 1), ("here", 1, (), True),
            ("lost", ()), ("none", None), ("ok",), ("ok", 1, 0), ("ok", 1, 1, 1), ("ok", -1), ("ok", 1, None), ("trim", 1), ("Ask",),
            ("", 1), (("ask",),), (["ask"],), (None, 1), ("seen",), ("set", "1", tuple("abcdefg")),
        ]
        for value in wrong + objects():
            self.assertFalse(is_thing(value), value)
            self.assertEqual(raised(line_of, value), ("BadValue", "thing"))
        for at, thing in enumerate(TOLD.values()):
            for value in objects():
                for place in range(len(thing)):
                    spoilt = thing[:place] + (value,) + thing[place + 1:]
                    if not is_thing(spoilt):
                        self.assertEqual(raised(line_of, spoilt), ("BadValue", "thing"))


def searched_heard(entries, lines):
    """What a client hears, as the document words it; or the index of the first line that is wrong."""
    waiting, notices = [], []
    for at, line in enumerate(lines):
        try:
            thing = thing_of(line)
        except BadText:
            return at
        word = thing[0]
        if word in COMMANDS:
            waiting.append(thing)
            continue
        first = waiting[0][0] if waiting else None
        ends = {"ask": ["done"], "look": ["here", "lost", "none"], "append": ["ok 2"], None: []}.get(first, ["ok 1"])
        is_end = word in ends or f"{word} {len(thing) - 1}" in ends
        if word not in ("come", "letter") and not is_end and not (word == "gone" and first == "ask"):
            return at
        if word in ("come", "letter", "gone", "done"):
            notices.append(thing)
            try:
                applied(entries, notices)
            except BadNotice:
                return at
        waiting = waiting[1:] if is_end else waiting
    return (applied(entries, notices), waiting)


class Heard(unittest.TestCase):

    ENTRIES = [(1, (), 3), (2, ("a",), 9), (4, (), 10)]

    def test_value_by_value(self):
        lines = ["> ask", "> look 2", "< letter 1 b 12", "< gone 2", "< come 5 - 13", "< done 14 6", "> append 3 -", "< lost"]
        rows = [(1, ("b",), 12), (4, (), 10), (5, (), 13)]
        self.assertEqual(heard(self.ENTRIES, lines), (rows, [("append", 3, ())]))
        self.assertEqual(heard(self.ENTRIES, lines[:2]), (self.ENTRIES, [("ask",), ("look", 2)]))
        self.assertEqual(heard(self.ENTRIES, lines[:6]), (rows, [("look", 2)]))
        self.assertEqual(heard((), ()), ([], []))
        self.assertEqual(heard((), ["> append 1 -", "> set 1 a", "< ok 3 9", "< come 9 x 3"]), ([(9, ("x",), 3)], [("set", "1", ("a",))]))

    def test_line_by_line(self):
        lines = ["> ask", "> look 2", "< letter 1 b 12", "< gone 2", "< come 5 - 13", "< done 14 6", "> append 3 -", "< lost"]
        for many in range(len(lines) + 1):
            self.assertEqual(heard(self.ENTRIES, lines[:many]), searched_heard(self.ENTRIES, lines[:many]))
            self.assertEqual(heard(tuple(self.ENTRIES), tuple(lines[:many])), heard(self.ENTRIES, lines[:many]))

    def test_end_lines(self):
        ends = ["< done 20 9", "< here 1 - 1", "< lost", "< none", "< ok 1", "< ok 1 1", "< gone 1"]
        right = {
            "> ask": [0, 6], "> look 9": [1, 2, 3], "> add 1 a": [4], "> take * a": [4], "> set 1 -": [4], "> remove 1": [4],
            "> append 0 -": [5],
        }
        for command, fine in right.items():
            for at, line in enumerate(ends):
                for others in ([], ["> ask"], ["> look 1"]):
                    lines = [command, *others, line]
                    if at in fine:
                        waiting = [thing_of(row) for row in others]
                        self.assertEqual(heard(self.ENTRIES, lines)[1], ([thing_of(command)] if at == 6 else []) + waiting)
                    else:
                        self.assertEqual(raised(heard, self.ENTRIES, lines), ("BadText", len(lines) - 1))
        for line in ends:
            self.assertEqual(raised(heard, self.ENTRIES, [line]), ("BadText", 0))
            self.assertEqual(raised(heard, self.ENTRIES, ["> look 1", "< none", line]), ("BadText", 2))

    def test_notices_that_do_not_fit(self):
        for line in ("< come 4 - 20", "< letter 4 - 20", "< letter 3 - 10", "< letter 1 - 3", "< gone 4", "< done 9 5", "< done 10 4"):
            self.assertEqual(raised(heard, self.ENTRIES, ["> ask", line]), ("BadText", 1))
        self.assertEqual(raised(heard, self.ENTRIES, ["> ask", "> ask", "< done 30 9", "< done 29 9"]), ("BadText", 3))
        self.assertEqual(heard(self.ENTRIES, ["> ask", "> ask", "< done 30 9", "< done 30 5"]), (self.ENTRIES, []))
        # What end lines of others tell is not looked at.
        self.assertEqual(heard(self.ENTRIES, ["> look 1", "< here 99 z 0", "> add 7 a", "< ok 0"]), (self.ENTRIES, []))

    def test_drawn(self):
        chance = random.Random(122)
        told = [0, 0]
        for _ in range(3000):
            entries = self.ENTRIES if chance.random() < 0.5 else []
            lines = [line_of(some_thing(chance, chance.choice((COMMANDS, tuple(FORMS))))) for _ in range(chance.randint(0, 3))]
            waiting = [thing_of(line)[0] for line in lines if line[0] == ">"]
            for word in waiting:
                ends = {"ask": ["< gone 1", "< done 99 99"], "look": ["< lost", "< none"], "append": ["< ok 1 1"]}.get(word, ["< ok 1"])
                lines.append(chance.choice(ends + ["< come 9 a 99", "< letter 1 a 99"]))
            if lines and chance.random() < 0.1:
                lines[chance.randrange(len(lines))] = chance.choice(["", "> ask ", None, 5, b"> ask", ["> ask"]])
            found = searched_heard(entries, lines)
            if isinstance(found, int):
                self.assertEqual(raised(heard, entries, lines), ("BadText", found))
            else:
                self.assertEqual(heard(entries, lines), found)
            told[isinstance(found, int)] += 1
        self.assertGreater(min(told), 300)

    def test_sixty_and_sixty_one(self):
        self.assertEqual(heard([], ["> ask"] * 60), ([], [("ask",)] * 60))
        self.assertEqual(raised(heard, [], ["> ask"] * 61), ("BadText", -1))
        self.assertEqual(raised(heard, [], [5] * 61), ("BadText", -1))

    def test_errors_in_order(self):
        for value in objects():
            if type(value) not in (list, tuple):
                self.assertEqual(raised(heard, value, 5), ("BadRow", -1))
                self.assertEqual(raised(heard, self.ENTRIES, value), ("BadText", -1))
            self.assertEqual(raised(heard, self.ENTRIES + [value], 5), ("BadRow", 3))
            self.assertEqual(raised(heard, self.ENTRIES, ["> ask", value]), ("BadText", 1))
        self.assertEqual(raised(heard, self.ENTRIES[::-1], 5), ("BadRow", 1))

    def test_lists_are_new(self):
        entries, lines = list(self.ENTRIES), ["> ask"]
        rows, waiting = heard(entries, lines)
        rows.clear()
        waiting.clear()
        self.assertEqual((entries, lines), (self.ENTRIES, ["> ask"]))
        self.assertEqual(heard(entries, lines), (self.ENTRIES, [("ask",)]))
        self.assertEqual((entries, lines), copy.deepcopy((entries, lines)))


if __name__ == "__main__":
    unittest.main()
