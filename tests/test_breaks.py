"""[8.1] to [8.4]: what a client can do behind a line that broke, against a search through all states and resumes."""

import copy
import itertools
import random
import unittest

from mailtide.breaks import again, answer, behind, contents, doubt, good, least_questions, plan
from mailtide.errors import BadDeed, BadFolder, BadKey, BadValue, TooLarge
from mailtide.folders import Folder
from mailtide.histories import played
from tests.drawn import some_history, some_numbers, some_signs
from tests.test_folders import SIX, state, three
from tests.wrong import is_numbers, is_sign, is_signs, is_whole, objects, raised

QUESTIONS = [("next",), ("count",), ("mark",), ("signs", 1), ("signs", 4), ("body", 1), ("sign", "a")]


class Plain:
    """A folder as the document words it, for the commands."""

    def __init__(self, folder):
        self.letters = {number: [body, set(signs)] for number, body, signs, _ in folder.letters()}
        self.next, self.mark = folder.next_number(), folder.mark()

    def come(self, body, signs):
        self.letters[self.next] = [body, set(signs)]
        self.next += 1
        self.mark += 1

    def do(self, command):
        word, first = command[:2]
        if word == "append":
            self.come(first, command[2])
        elif word in ("copy", "move"):
            if first in self.letters:
                self.come(*self.letters[first])
                if word == "move":
                    del self.letters[first]
                    self.mark += 1
        else:
            for number in sorted(set(first)):
                self.change(word, number, command[2:])

    def change(self, word, number, rest):
        if number not in self.letters:
            return
        if word == "remove":
            del self.letters[number]
            self.mark += 1
            return
        old = self.letters[number][1]
        new = {"add": old | set(rest), "take": old - set(rest), "set": set(*rest) if word == "set" else None}[word]
        if new != old and len(new) <= 6:
            self.letters[number][1] = new
            self.mark += 1

    def contents(self):
        rows = [(number, body, tuple(sorted(signs))) for number, (body, signs) in sorted(self.letters.items())]
        return (self.next, tuple(rows))

    def told(self, question):
        word, rest = question[0], question[1:]
        if word in ("next", "mark"):
            return {"next": self.next, "mark": self.mark}[word]
        if word == "count":
            return len(self.letters)
        if word == "signs":
            return tuple(sorted(self.letters[rest[0]][1])) if rest[0] in self.letters else None
        if word == "body":
            return tuple(number for number in sorted(self.letters) if self.letters[number][0] == rest[0])
        return tuple(number for number in sorted(self.letters) if rest[0] in self.letters[number][1])


def behind_all(folder, commands):
    model = Plain(folder)
    for command in commands:
        model.do(command)
    return model


def searched(folder, row, acts):
    """All states, each as ((p, a), all good r, the folder as a model)."""
    row, rows = list(row), []
    for p in range(len(row) + 1):
        for a, act in [(-1, []), *enumerate([[act] for act in acts])]:
            ahead = row[:p] + act
            right = behind_all(folder, ahead + row[p:]).contents()
            fine = tuple(r for r in range(len(row) + 1) if behind_all(folder, ahead + row[r:]).contents() == right)
            rows.append(((p, a), fine, behind_all(folder, ahead)))
    return rows


def searched_plan(rows, questions):
    groups = {}
    for _, fine, model in rows:
        groups.setdefault(tuple(model.told(question) for question in questions), []).append(set(fine))
    found = [(told, set.intersection(*sets)) for told, sets in groups.items()]
    return [(told, min(common)) for told, common in found] if all(common for _, common in found) else None


def searched_least(rows, offers):
    for many in range(len(offers) + 1):
        for chosen in itertools.combinations(range(len(offers)), many):
            if searched_plan(rows, [offers[at] for at in chosen]) is not None:
                return chosen
    return None


def searched_doubt(rows, questions):
    for (one, fine, model), (other, others, later) in itertools.combinations(rows, 2):
        if [model.told(each) for each in questions] == [later.told(each) for each in questions]:
            if not set(fine) & set(others):
                return (one, other)
    return None


def is_command(value):
    """Whether the value is a command, as the document words it."""
    if type(value) is not tuple or not value or type(value[0]) is not str:
        return False
    checks = {
        "append": (lambda body: is_whole(body, 0), is_signs), "add": (is_numbers, is_sign), "take": (is_numbers, is_sign),
        "set": (is_numbers, is_signs), "remove": (is_numbers,), "copy": (lambda number: is_whole(number, 1),),
        "move": (lambda number: is_whole(number, 1),),
    }.get(value[0])
    return checks is not None and len(checks) + 1 == len(value) and all(map(lambda check, told: check(told), checks, value[1:]))


def is_question(value):
    """Whether the value is a question, as the document words it."""
    if type(value) is not tuple or not value or type(value[0]) is not str:
        return False
    if value in (("next",), ("count",), ("mark",)):
        return True
    if len(value) != 2:
        return False
    checks = {"signs": lambda told: is_whole(told, 1), "body": lambda told: is_whole(told, 0), "sign": is_sign}
    return value[0] in checks and checks[value[0]](value[1])


def some_command(chance, folder):
    numbers, one = some_numbers(chance, folder, 3), chance.randint(1, folder.next_number() + 1)
    return chance.choice([
        ("append", chance.randint(0, 2), some_signs(chance, "ab")), ("add", numbers, chance.choice("ab")),
        ("take", numbers, chance.choice("ab")), ("set", numbers, some_signs(chance, "ab")), ("remove", numbers),
        ("copy", one), ("move", one), ("add", (one,), "a"), ("take", (one,), "a"),
    ])


def drawn(chance, most=3, most_acts=2):
    """A folder, a row of commands, and acts."""
    folder = played(Folder(1), some_history(chance, 1, chance.randint(0, 6), names="ab"))
    row = [some_command(chance, folder) for _ in range(chance.randint(0, most))]
    acts = [some_command(chance, folder) for _ in range(chance.randint(0, most_acts))]
    return folder, chance.choice((list, tuple))(row), chance.choice((list, tuple))(acts)


class Contents(unittest.TestCase):

    def test_contents(self):
        folder = three()
        self.assertEqual(contents(folder), (4, tuple(letter[:3] for letter in folder.letters())))
        self.assertEqual(contents(folder.removed((2,))), (4, tuple(letter[:3] for letter in folder.letters()[::2])))
        self.assertEqual(contents(Folder(3)), (1, ()))
        self.assertEqual(contents(folder), contents(folder.added((1,), "q").taken((1,), "q").trimmed(4)))

    def test_wrong(self):
        for value in objects():
            if not isinstance(value, Folder):
                self.assertEqual(raised(contents, value), ("BadFolder", value))


class Behind(unittest.TestCase):

    def test_each_command(self):
        folder = three()
        number, body, signs, _ = folder.letters()[1]
        row = [("append", 7, ("x",)), ("add", [1, 2, 9], "x"), ("take", (1,), "x"), ("set", (3,), ()), ("remove", [1, 8])]
        self.assertEqual(behind(folder, row, 5), played(folder, row))
        for p in range(6):
            self.assertEqual(behind(folder, row, p), played(folder, row[:p]))
        self.assertEqual(behind(folder, [("copy", number)], 1), folder.appended(body, signs))
        self.assertEqual(behind(folder, [("move", number)], 1), folder.appended(body, signs).removed((number,)))
        for word in ("copy", "move"):
            self.assertEqual(behind(folder, [(word, 4)], 1), folder)
            self.assertEqual(behind(folder, [("append", 1, ()), (word, 4)], 2).next_number(), 6)
            self.assertEqual(behind(folder.removed((2,)), ((word, 2),), 1), folder.removed((2,)))

    def test_drawn(self):
        chance = random.Random(80)
        for _ in range(300):
            folder, row, _ = drawn(chance, 6)
            for p in range(len(row) + 1):
                later = behind(folder, row, p)
                model = behind_all(folder, row[:p])
                self.assertEqual((contents(later), later.mark()), (model.contents(), model.mark))

    def test_wrong_p(self):
        row = [("remove", (1,)), ("copy", 2)]
        for value in objects() + [-1, 3, 2 ** 70]:
            if not (type(value) is int and 0 <= value <= 2):
                self.assertEqual(raised(behind, three(), row, value), ("BadValue", "p"))


class Good(unittest.TestCase):

    def test_against_a_search(self):
        chance = random.Random(81)
        for _ in range(500):
            folder, row, acts = drawn(chance)
            rows = searched(folder, row, acts)
            self.assertEqual(good(folder, row, acts), [(*at, fine) for at, fine, _ in rows])

    def test_all_rows_of_two_commands(self):
        folder = Folder(1).appended(0, ()).appended(1, ("a",)).removed((2,)).appended(2, ("a",))
        commands = [("append", 1, ()), ("add", (1, 4), "a"), ("take", (3,), "a"), ("set", (1, 3), ("b",)), ("remove", (1,))]
        commands += [(word, number) for word in ("copy", "move") for number in (1, 2, 4)]
        for row in itertools.product(commands, repeat=2):
            for act in commands:
                rows = searched(folder, row, [act])
                self.assertEqual(good(folder, row, (act,)), [(*at, fine) for at, fine, _ in rows])
                self.assertEqual(plan(folder, row, [("next",)], (act,)), searched_plan(rows, [("next",)]))

    def test_p_is_good(self):
        chance = random.Random(82)
        for _ in range(200):
            for p, _, fine in good(*drawn(chance)):
                self.assertIn(p, fine)

    def test_without_acts_and_without_commands(self):
        self.assertEqual(good(three(), []), [(0, -1, (0,))])
        self.assertEqual(good(three(), [], [("append", 1, ()), ("copy", 1)]), [(0, -1, (0,)), (0, 0, (0,)), (0, 1, (0,))])
        self.assertEqual(good(three(), [("copy", 1)]), [(0, -1, (0,)), (1, -1, (1,))])

    def test_of_a_letter_that_is_not_there(self):
        folder = three()
        for word in ("copy", "move"):
            row = [(word, 4)]
            self.assertEqual(good(folder, row), [(0, -1, (0, 1)), (1, -1, (0, 1))])
            # The act gives the number.
            found = good(folder, row, [("append", 5, ())])
            self.assertEqual(found[1], (0, 0, (0,)))
            self.assertEqual(found[3], (1, 0, (1,)))

    def test_eight_commands_and_six_acts(self):
        folder = three()
        row = [("add", (1,), sign) for sign in "abcdefgh"]
        acts = [("take", (1,), sign) for sign in "abcdef"]
        rows = searched(folder, row, acts)
        self.assertEqual(good(folder, row, acts), [(*at, fine) for at, fine, _ in rows])
        self.assertEqual(len(rows), 63)
        self.assertEqual(raised(good, folder, row + row[:1], acts), ("BadDeed", -1))
        self.assertEqual(raised(good, folder, row, acts + acts[:1]), ("BadDeed", -1))

    def test_a_folder_of_two_hundred(self):
        folder = Folder(1)
        for number in range(200):
            folder = folder.appended(number, ("a",))
        row = [("set", range_of(200), ("b",)), ("remove", range_of(9)), ("copy", 100), ("move", 50)] * 2
        acts = [("append", 1, ()), ("take", range_of(100), "b"), ("remove", (100,))] * 2
        self.assertEqual(good(folder, row, acts), [(*at, fine) for at, fine, _ in searched(folder, row, acts)])


def range_of(many):
    return tuple(range(1, many + 1))


class Again(unittest.TestCase):

    def test_facts(self):
        chance = random.Random(83)
        for _ in range(300):
            folder, _, acts = drawn(chance, most_acts=3)
            known = [number for number in some_numbers(chance, folder) if number < folder.next_number()]
            one = chance.randint(1, max(1, folder.next_number() - 1))
            self.assertTrue(again(folder, ("remove", known), acts))
            if one < folder.next_number():
                self.assertTrue(again(folder, ("move", one), acts))
                for command in (("add", known, "a"), ("take", known, "b"), ("set", known, ("a", "b"))):
                    self.assertTrue(again(folder, command))
            self.assertFalse(again(folder, ("append", 1, ()), acts))
            there = [letter[0] for letter in folder.letters()]
            for number in range(1, folder.next_number() + 2):
                self.assertEqual(again(folder, ("copy", number)), number not in there)

    def test_against_a_search(self):
        chance = random.Random(84)
        for _ in range(500):
            folder, row, acts = drawn(chance)
            for command in row:
                rows = searched(folder, [command], acts)
                self.assertIs(again(folder, command, acts), all(0 in fine for _, fine, _ in rows))

    def test_an_act_that_changes_back(self):
        folder = Folder(1).appended(1, ())
        self.assertFalse(again(folder, ("add", (1,), "a"), [("take", (1,), "a")]))
        self.assertTrue(again(folder, ("add", (1,), "a"), [("take", (1,), "b")]))
        self.assertFalse(again(folder.added((1,), "a"), ("take", (1,), "a"), [("add", (1,), "a")]))
        self.assertFalse(again(folder, ("set", (1,), ("a",)), [("set", (1,), ())]))

    def test_a_number_that_comes_by_an_act(self):
        folder = three()
        self.assertTrue(again(folder, ("copy", 4)))
        self.assertFalse(again(folder, ("copy", 4), [("append", 1, ())]))
        self.assertFalse(again(folder, ("remove", (4,)), [("append", 1, ())]))
        self.assertFalse(again(folder, ("move", 4), (("copy", 1),)))

    def test_wrong(self):
        folder = three()
        for value in objects() + [("trim", 0), ("copy", 0), ("copy", True), ("move", "1"), ("copy",), ("move", 1, 1), ("add", 1, "a")]:
            if not is_command(value):
                self.assertEqual(raised(again, folder, value, ()), ("BadDeed", 0))
                self.assertEqual(raised(again, folder, value, 5), ("BadDeed", 0))
                self.assertEqual(raised(again, folder, ("copy", 1), [("copy", 1), value]), ("BadDeed", 2))
            if not isinstance(value, Folder):
                self.assertEqual(raised(again, value, ("copy", 1)), ("BadFolder", value))
            if type(value) not in (list, tuple):
                self.assertEqual(raised(again, folder, ("copy", 1), value), ("BadDeed", -1))


class Answers(unittest.TestCase):

    def test_each_question(self):
        folder = Folder(1).appended(5, ("a",)).appended(6, ("a", "b")).appended(5, ()).removed((1,)).appended(6, ("b",))
        told = {
            ("next",): 5, ("count",): 3, ("mark",): 5, ("signs", 2): ("a", "b"), ("signs", 3): (), ("signs", 1): None,
            ("signs", 9): None, ("body", 5): (3,), ("body", 6): (2, 4), ("body", 0): (), ("sign", "a"): (2,),
            ("sign", "b"): (2, 4), ("sign", "c"): (),
        }
        for question, expected in told.items():
            self.assertEqual(answer(folder, question), expected)
        self.assertEqual([answer(Folder(2), question) for question in QUESTIONS], [1, 0, 0, None, None, (), ()])

    def test_drawn(self):
        chance = random.Random(85)
        for _ in range(200):
            folder, _, _ = drawn(chance)
            for question in QUESTIONS:
                self.assertEqual(answer(folder, question), Plain(folder).told(question))

    def test_wrong(self):
        wrong = [("next", 1), ("count", None), ("mark", ()), ("signs",), ("signs", 0), ("signs", True), ("body", -1), ("body", "1")]
        wrong += [("sign", "A"), ("sign", ("a",)), ("sign", ""), ["next"], ("signs", 1, 1), (("next",),), ([], 1), ("Next",)]
        wrong += [("foo", 5), ("foo", "a"), ("sign", 5), ("signs", "a"), ("body", "a"), ("", ()), ("next", 5)]
        for value in wrong + objects():
            if not is_question(value):
                self.assertEqual(raised(answer, three(), value), ("BadKey", value))
            if not isinstance(value, Folder):
                self.assertEqual(raised(answer, value, ("next",)), ("BadFolder", value))
                self.assertEqual(raised(answer, value, 5), ("BadFolder", value))


class Plans(unittest.TestCase):

    def test_against_a_search(self):
        chance = random.Random(86)
        seen = set()
        for _ in range(500):
            folder, row, acts = drawn(chance)
            rows = searched(folder, row, acts)
            questions = chance.sample(QUESTIONS, chance.randint(0, 4))
            found = plan(folder, row, questions, acts)
            self.assertEqual(found, searched_plan(rows, questions))
            least = least_questions(folder, row, tuple(questions), acts)
            self.assertEqual(least, searched_least(rows, questions))
            self.assertEqual(found is None, least is None)
            self.assertEqual(doubt(folder, row, questions, acts), searched_doubt(rows, questions))
            seen.add(None if least is None else len(least))
        self.assertEqual(seen, {None, 0, 1, 2})

    def test_the_mark_alone_suffices_without_acts(self):
        chance = random.Random(87)
        for _ in range(300):
            folder, row, _ = drawn(chance, 4)
            self.assertIsNotNone(plan(folder, row, (("mark",),)))
            self.assertIsNone(doubt(folder, row, [("mark",)]))

    def test_with_acts_it_may_not(self):
        folder = Folder(1).appended(1, ())
        row, acts = [("append", 1, ())], [("append", 2, ())]
        self.assertIsNone(plan(folder, row, [("mark",)], acts))
        self.assertEqual(doubt(folder, row, [("mark",)], acts), ((0, 0), (1, -1)))
        self.assertEqual(least_questions(folder, row, [("mark",), ("next",), ("body", 1)], acts), (2,))

    def test_removes_and_moves_need_no_question(self):
        chance = random.Random(88)
        for _ in range(200):
            folder, _, acts = drawn(chance, most_acts=3)
            known = range(1, folder.next_number())
            rows = [("remove", [number]) for number in known] + [("move", number) for number in known]
            row = chance.sample(rows, min(len(rows), chance.randint(0, 5)))
            self.assertEqual(plan(folder, row, [], acts), [((), 0)])
            self.assertEqual(least_questions(folder, row, QUESTIONS, acts), ())

    def test_two_by_two_and_none_all_together(self):
        folder = Folder(1)
        for number in range(1, 20):
            folder = folder.appended(0, ("a",) if number > 13 else ())
        # Removed first, letter 1 is not copied; nor if the copying is passed over.
        row = [("remove", (1,)), ("add", (2, 4), "a"), ("add", (3,), "a"), ("copy", 1), ("remove", (1,))]
        many = tuple(range(5, 14))
        acts = [("add", many, "b"), ("take", (2, 4, *range(14, 20)), "a"), ("add", (2, 3, 4, *many), "a")]
        marks = [answer(behind(folder, row, p), ("mark",)) for p in range(6)]
        self.assertEqual(marks, [19, 20, 22, 23, 23, 23])
        fine = {at: resumes for at, resumes, _ in searched(folder, row, acts)}
        self.assertEqual([fine[0, 2], fine[2, 0], fine[3, 1]], [(0, 4), (0, 1, 2), (2, 3, 4, 5)])
        self.assertIsNone(doubt(folder, row, [("mark",)], acts))
        self.assertIsNone(plan(folder, row, [("mark",)], acts))
        self.assertIsNone(least_questions(folder, row, [("mark",)], acts))
        self.assertEqual(least_questions(folder, row, [("mark",), ("count",), ("signs", 2)], acts), (0, 1))

    def test_of_several_the_first_one(self):
        folder = Folder(1).appended(1, ())
        row = [("append", 1, ())]
        offers = [("signs", 1), ("count",), ("next",), ("mark",)]
        self.assertEqual(least_questions(folder, row, offers), (1,))
        self.assertIsNone(least_questions(folder, row, offers[:1]))
        self.assertIsNone(least_questions(folder, row, []))
        self.assertEqual(plan(folder, row, offers[1:3]), [((1, 2), 0), ((2, 3), 1)])

    def test_ten_questions_and_eleven(self):
        folder, row = three(), [("append", 1, ()), ("copy", 2)]
        ten = [("signs", number) for number in range(1, 10)] + [("mark",)]
        for call, found in ((plan, 3), (least_questions, 1)):
            self.assertEqual(len(call(folder, row, ten)), found)
            self.assertEqual(raised(call, folder, row, ten + [("next",)]), ("TooLarge", 10))
            self.assertEqual(raised(call, folder, row, ten + ["next"]), ("BadKey", "next"))
        self.assertIsNone(doubt(folder, row, ten))
        self.assertEqual(raised(doubt, folder, row, ten + [("next",)]), ("TooLarge", 10))

    def test_the_most_of_all(self):
        folder = three()
        row = [("append", at, ("a",)) for at in range(8)]
        acts = [("append", at, ()) for at in range(6)]
        offers = [("body", at) for at in range(8)] + [("next",), ("count",)]
        rows = searched(folder, row, acts)
        self.assertEqual(least_questions(folder, row, offers, acts), searched_least(rows, offers))
        self.assertEqual(plan(folder, row, offers, acts), searched_plan(rows, offers))
        self.assertEqual(doubt(folder, row, offers[8:], acts), searched_doubt(rows, offers[8:]))


class Errors(unittest.TestCase):

    def test_in_order(self):
        folder, row, questions = three(), [("copy", 1)], [("next",)]
        for call in (plan, least_questions, doubt):
            self.assertEqual(raised(call, 5, 5, 5, 5), ("BadFolder", 5))
            self.assertEqual(raised(call, folder, 5, 5, 5), ("BadDeed", -1))
            self.assertEqual(raised(call, folder, [row[0], 5], 5, 5), ("BadDeed", 1))
            self.assertEqual(raised(call, folder, row, 5, 5), ("BadKey", 5))
            self.assertEqual(raised(call, folder, row, questions * 11, 5), ("TooLarge", 10))
            self.assertEqual(raised(call, folder, row, questions, 5), ("BadDeed", -1))
            self.assertEqual(raised(call, folder, row, questions, [5]), ("BadDeed", 1))
            self.assertEqual(raised(call, folder, row * 3, questions, [row[0], row[0], 5]), ("BadDeed", 5))
        self.assertEqual(raised(good, 5, 5, 5), ("BadFolder", 5))
        self.assertEqual(raised(again, 5, 5, 5), ("BadFolder", 5))
        self.assertEqual(raised(good, folder, 5, 5), ("BadDeed", -1))
        self.assertEqual(raised(good, folder, row * 8, [row[0]] * 5 + [5]), ("BadDeed", 13))
        self.assertEqual(raised(behind, 5, 5, 5), ("BadFolder", 5))
        self.assertEqual(raised(behind, folder, 5, 5), ("BadDeed", -1))
        self.assertEqual(raised(behind, folder, [5] * 9, 5), ("BadDeed", -1))
        self.assertEqual(raised(behind, folder, row, 5), ("BadValue", "p"))
        self.assertEqual(raised(behind, folder, row + [("trim", 1)], 0), ("BadDeed", 1))

    def test_wrong_objects(self):
        folder, row, questions = three(), [("copy", 1)], [("next",)]
        for value in objects():
            for call, rest in ((good, ()), (plan, (questions,)), (least_questions, (questions,)), (doubt, (questions,))):
                if type(value) not in (list, tuple):
                    self.assertEqual(raised(call, folder, value, *rest), ("BadDeed", -1))
                    self.assertEqual(raised(call, folder, row, *rest, value), ("BadDeed", -1))
                    if rest:
                        self.assertEqual(raised(call, folder, row, value), ("BadKey", value))
                if not is_command(value):
                    self.assertEqual(raised(call, folder, row + [value], *rest), ("BadDeed", 1))
                    self.assertEqual(raised(call, folder, row, *rest, row + [value]), ("BadDeed", 2))
                if rest and not is_question(value):
                    self.assertEqual(raised(call, folder, row, questions + [value, 5]), ("BadKey", value))

    def test_arguments_stay(self):
        folder = three()
        row, acts, questions = [("add", [2, 1], "x"), ("move", 1)], [("set", [1], SIX)], list(QUESTIONS)
        ahead = copy.deepcopy((row, acts, questions, state(folder)))
        good(folder, row, acts)
        plan(folder, row, questions, acts)
        least_questions(folder, row, questions, acts)
        doubt(folder, row, questions, acts)
        behind(folder, row, 2)
        self.assertEqual((row, acts, questions, state(folder)), ahead)


if __name__ == "__main__":
    unittest.main()
