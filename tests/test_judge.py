"""[12.2] to [12.6]: placings against a search through all of them, sure marks, and lines of a right server."""

import copy
import itertools
import random
import unittest

from mailtide.errors import BadDeed, BadFolder, BadRow, BadText, TooLarge
from mailtide.folders import Folder
from mailtide.histories import played
from mailtide.judge import first_placing, placings, sure_marks, transcript, wrong_line
from mailtide.lines import heard, line_of, thing_of
from mailtide.sets import meant
from mailtide.sure import sure_mark
from mailtide.views import Session, applied
from tests.drawn import some_deed, some_history, some_signs
from tests.test_folders import state, three
from tests.test_histories import is_deed
from tests.test_lines import COMMANDS, is_thing
from tests.wrong import objects, raised

NOTICES = ("come", "letter", "gone", "done")


def command_done(folder, command):
    """The folder behind a command, as the document words it."""
    word, numbers = command[0], [letter[0] for letter in folder.letters()]
    if word in ("ask", "look"):
        return folder
    if word == "append":
        return folder.appended(*command[1:])
    return played(folder, [(word, meant(command[1], numbers)) + command[2:]])


def look(session, folder, place):
    told = session.told()
    if place > len(told):
        return ("none",)
    rows = [(number, signs, mark) for number, _, signs, mark in folder.letters() if number == told[place - 1][0]]
    return ("here", *rows[0]) if rows else ("lost",)


def is_right(folder, lines, deeds, placing):
    """Whether all these lines are right by a placing, as the document words it; the number of lines that are not looked at."""
    session, waiting, many, at = Session(folder), [], 0, 0
    for line in lines:
        try:
            thing = thing_of(line)
        except BadText:
            return False
        if thing[0] in COMMANDS:
            waiting.append(thing)
            continue
        folder, many, at = played(folder, deeds[many:placing[at]]), placing[at], at + 1
        session.see(folder)
        first = waiting[0] if waiting else ("",)
        if thing[0] in NOTICES:
            if session.tell([thing], first[0] == "ask") is not None:
                return False
            waiting = waiting[1:] if thing[0] == "done" else waiting
            continue
        if first[0] in ("", "ask"):
            return False
        folder = command_done(folder, first)
        expected = ("ok", folder.mark())
        if first[0] == "append":
            expected += (folder.next_number() - 1,)
        if thing != (look(session, folder, first[1]) if first[0] == "look" else expected):
            return False
        waiting = waiting[1:]
    return True


def searched(folder, lines, deeds):
    """All placings."""
    many = sum(type(line) is str and line[:1] == "<" for line in lines)
    rows = itertools.combinations_with_replacement(range(len(deeds) + 1), many)
    return [row for row in rows if is_right(folder, lines, deeds, row)]


def searched_wrong(folder, lines, deeds):
    for at in range(len(lines)):
        if not searched(folder, lines[:at + 1], deeds):
            return at
    return None


def some_command(chance, folder):
    top = folder.next_number() + 1
    text = chance.choice(["*", "1:*", str(chance.randint(1, top)), f"{chance.randint(1, top)}:{chance.randint(1, top)}", "1,*"])
    return chance.choice([
        ("ask",), ("ask",), ("look", chance.randint(1, 4)), ("look", chance.randint(1, 4)), ("add", text, chance.choice("ab")),
        ("take", text, chance.choice("ab")), ("set", text, some_signs(chance, "ab")), ("remove", text), ("append", 1, some_signs(chance, "ab")),
    ])


def some_moves(chance, folder, most_deeds=4, most=5):
    """Moves, and the deeds of others in them."""
    moves, deeds, now = [], [], folder
    for _ in range(chance.randint(0, most)):
        moves.append(("send", some_command(chance, now)))
    for _ in range(chance.randint(0, most_deeds)):
        deed = some_deed(chance, now, False, "ab")
        deeds.append(deed)
        now = played(now, [deed])
        moves.insert(chance.randint(0, len(moves)), ("others", None))
    for _ in range(chance.randint(0, most)):
        moves.insert(chance.randint(0, len(moves)), ("answer",))
    rest = iter(deeds)
    return [("others", next(rest)) if move[0] == "others" else move for move in moves], deeds


def spoilt(chance, lines):
    """Lines of which one is otherwise, or stands elsewhere, or is not there."""
    lines = list(lines)
    at = chance.randrange(len(lines))
    kind = chance.randrange(4)
    if kind == 0:
        del lines[at]
    elif kind == 1:
        lines.insert(chance.randrange(len(lines)), lines.pop(at))
    elif kind == 2:
        words = lines[at].split(" ")
        place = chance.randrange(len(words))
        words[place] = chance.choice(["1", "2", "3", "4", "-", "a", "*"])
        lines[at] = " ".join(words)
    else:
        lines.insert(at, chance.choice(["< ok 3", "< lost", "< none", "< gone 1", "< done 3 3", "< here 1 - 1", "< come 3 a 3"]))
    return lines


def drawn(chance, most_deeds=4):
    """A folder, lines, and deeds of others; mostly some that fit together."""
    folder = played(Folder(1), some_history(chance, 1, chance.randint(0, 4), False, "ab"))
    moves, deeds = some_moves(chance, folder, most_deeds)
    lines = transcript(folder, moves)
    if lines and chance.random() < 0.4:
        lines = spoilt(chance, lines)
    if deeds and chance.random() < 0.2:
        deeds = chance.sample(deeds, chance.randint(0, len(deeds)))
    while sum(line[0] == "<" for line in lines) > 7:
        lines.pop()
    return folder, lines, deeds


class Placings(unittest.TestCase):

    def test_against_a_search(self):
        chance = random.Random(123)
        seen = set()
        for _ in range(500):
            folder, lines, deeds = drawn(chance)
            rows = searched(folder, lines, deeds)
            form = chance.choice((list, tuple))
            self.assertEqual(placings(folder, form(lines), form(deeds)), len(rows))
            self.assertEqual(first_placing(folder, form(lines), form(deeds)), rows[0] if rows else None)
            wrong = wrong_line(folder, form(lines), form(deeds))
            self.assertEqual(wrong, searched_wrong(folder, lines, deeds))
            self.assertEqual(wrong is None, bool(rows))
            seen.add(min(len(rows), 3))
        self.assertEqual(seen, {0, 1, 2, 3})

    def test_deeds_that_change_nothing(self):
        folder = three()
        deeds = [("remove", (9,)), ("add", (), "a"), ("take", (1, 2, 3), "q")]
        lines = ["> look 1", "> add 9 a", "< here 1 a 1", "< ok 3", "> ask", "< done 3 4"]
        lines[2] = "< " + line_of(("here", 1, *folder.letters()[0][2:]))[2:]
        self.assertEqual(placings(folder, lines, deeds), 20)
        self.assertEqual(first_placing(folder, lines, deeds), (0, 0, 0))
        self.assertEqual(len(searched(folder, lines, deeds)), 20)

    def test_nothing_told(self):
        deeds = [("append", 1, ())] * 12
        self.assertEqual(placings(three(), [], deeds), 1)
        self.assertEqual(first_placing(three(), (), deeds), ())
        self.assertIsNone(wrong_line(three(), ["> ask", "> look 5"], deeds))
        self.assertEqual(first_placing(three(), ["> ask", "> look 5"], deeds), ())

    def test_without_deeds_there_is_at_most_one(self):
        chance = random.Random(124)
        seen = set()
        for _ in range(200):
            folder, lines, _ = drawn(chance, 0)
            seen.add(placings(folder, lines, []))
        self.assertEqual(seen, {0, 1})

    def test_the_deed_that_a_look_tells(self):
        folder = Folder(1).appended(1, ()).appended(2, ())
        deeds = [("add", (1,), "a"), ("remove", (2,)), ("append", 3, ())]
        told = {
            "< here 1 - 1": (1, (0,)), "< here 1 a 3": (3, (1,)), "< lost": (0, None), "< none": (0, None), "< here 2 - 2": (0, None),
            "< here 1 a 4": (0, None),
        }
        for line, (many, least) in told.items():
            self.assertEqual((placings(folder, ["> look 1", line], deeds), first_placing(folder, ["> look 1", line], deeds)), (many, least))
        self.assertEqual(first_placing(folder, ["> look 2", "< lost"], deeds), (2,))
        self.assertEqual(placings(folder, ["> look 2", "< lost"], deeds), 2)
        # A place is one of the session's list, which does not have the new letter.
        self.assertEqual(placings(folder, ["> look 3", "< none"], deeds), 4)
        self.assertEqual(placings(folder, ["> look 3", "< come 3 - 5", "< here 3 - 5"], deeds), 1)
        self.assertEqual(wrong_line(folder, ["> look 2", "< gone 2", "< lost"], deeds), 1)
        self.assertEqual(placings(folder, ["> ask", "> look 2", "< gone 2", "< letter 1 a 3", "< done 4 3", "< none"], deeds), 2)

    def test_own_deeds_are_told_by_notices_alone(self):
        folder = Folder(1).appended(1, ())
        ahead = ["> add 1 a", "< ok 2", "> look 1", "> ask"]
        self.assertEqual(placings(folder, ahead + ["< here 1 a 2", "< letter 1 a 2", "< done 2 2"], []), 1)
        self.assertEqual(wrong_line(folder, ahead + ["< here 1 a 2", "< done 2 2"], []), 5)
        ahead = ["> append 1 -", "< ok 2 2", "> look 2", "< none", "> look 2"]
        self.assertEqual(placings(folder, ahead + ["< come 2 - 2", "< here 2 - 2"], []), 1)
        self.assertEqual(wrong_line(folder, ahead + ["< here 2 - 2"], []), 5)
        ahead = ["> remove *", "< ok 2", "> look 1", "< lost", "> ask"]
        self.assertEqual(placings(folder, ahead + ["< gone 1", "< done 2 2"], []), 1)
        self.assertEqual(wrong_line(folder, ahead + ["< done 2 2"], []), 5)

    def test_end_lines(self):
        folder = three()
        for lines, at in (
            (["< ok 3"], 0), (["< lost"], 0), (["< done 3 4"], 0), (["> add 9 a", "< ok 3", "< ok 3"], 2), (["> ask", "< ok 3"], 1),
            (["> look 9", "< done 3 4"], 1), (["> look 9", "< ok 3"], 1), (["> append 1 -", "< ok 4"], 1), (["> add 9 a", "< ok 3 3"], 1),
            (["> add 9 a", "< none"], 1), (["> append 1 -", "< ok 4 4"], None), (["> append 1 -", "< ok 4 5"], 1),
            (["> add 9 a", "< ok 4"], 1), (["> add 9 a", "> ask", "< done 3 4"], 2), (["> look 9", "> ask", "< none", "< done 3 4"], None),
        ):
            self.assertEqual(wrong_line(folder, lines, []), at, lines)
            self.assertEqual(placings(folder, lines, []), int(at is None))

    def test_lines_that_are_no_text(self):
        for value in objects():
            self.assertEqual(wrong_line(three(), ["> ask", value], []), 1)
            self.assertEqual(placings(three(), [value], []), 0)
            self.assertIsNone(first_placing(three(), [value, "> ask"], []))
            # A line that is wrong ahead of it.
            self.assertEqual(wrong_line(three(), ["< lost", value], []), 0)

    def test_many_placings(self):
        folder = three()
        lines = ["> look 9", "< none"] * 30
        deeds = [("add", (1,), "q"), ("take", (1,), "q")] * 6
        many = placings(folder, lines, deeds)
        self.assertEqual(many, 11058116888)
        self.assertEqual(first_placing(folder, lines, deeds), (0,) * 30)
        lines[57] = "< come 9 - 9"
        self.assertEqual(wrong_line(folder, lines, deeds), 57)

    def test_sixty_lines_and_twelve_deeds(self):
        folder, deed = three(), ("append", 1, ())
        for call in (placings, first_placing, wrong_line):
            call(folder, ["> ask"] * 60, [deed] * 12)
            self.assertEqual(raised(call, folder, ["> ask"] * 61, [deed]), ("BadRow", -1))
            self.assertEqual(raised(call, folder, ["> ask"], [deed] * 13), ("BadDeed", -1))
            self.assertEqual(raised(call, folder, ["> ask"], [5] * 13), ("BadDeed", -1))

    def test_between_two_ok_lines(self):
        folder = Folder(1).appended(1, ()).appended(2, ()).appended(3, ())
        lines = ["> add 9 a", "< ok 3", "> add 1:3 q", "< ok 8"]
        deeds = [("append", 1, ()), ("remove", (1,)), ("append", 1, ())]
        # Own changes are three, or two behind the removing; so others have had two or three.
        self.assertEqual(first_placing(folder, lines, deeds), (0, 3))
        self.assertEqual(placings(folder, lines, deeds[1:]), 0)
        self.assertEqual(placings(folder, lines, [deeds[0]] * 3), 1)

    def test_errors_in_order(self):
        for call in (placings, first_placing, wrong_line):
            for value in objects():
                if not isinstance(value, Folder):
                    self.assertEqual(raised(call, value, 5, 5), ("BadFolder", value))
                if type(value) not in (list, tuple):
                    self.assertEqual(raised(call, three(), value, 5), ("BadRow", -1))
                    self.assertEqual(raised(call, three(), [5], value), ("BadDeed", -1))
                if not is_deed(value):
                    self.assertEqual(raised(call, three(), [5], [("remove", ()), value, 5]), ("BadDeed", 1))
            self.assertEqual(raised(call, three(), [5], [("trim", 0)]), ("BadDeed", 0))


def searched_sure(folder, lines):
    """The sure marks, each by the notices since the last done alone."""
    marks = []
    for at, line in enumerate(lines):
        thing = thing_of(line)
        if thing[0] not in NOTICES:
            continue
        ahead = [place for place in range(at + 1) if thing_of(lines[place])[0] == "done"]
        begin = ahead[-1] + 1 if ahead else 0
        entries, _ = heard([(number, signs, mark) for number, _, signs, mark in folder.letters()], lines[:begin])
        mark, upcoming = thing_of(lines[ahead[-1]])[1:] if ahead else (folder.mark(), folder.next_number())
        notices = [thing_of(row) for row in lines[begin:at + 1] if thing_of(row)[0] in NOTICES]
        if thing[0] == "done":
            marks.append(mark)
            continue
        comes = [notice[1] for notice in notices if notice[0] == "come"]
        if any(notice[0] == "gone" for notice in notices) or comes != list(range(upcoming, upcoming + len(comes))):
            marks.append(marks[-1] if marks and len(notices) > 1 or ahead and marks else folder.mark())
        else:
            marks.append(sure_mark(entries, mark, upcoming, notices))
    return marks


class SureMarks(unittest.TestCase):

    def test_value_by_value(self):
        folder = Folder(1).appended(1, ()).appended(1, ())
        self.assertEqual(sure_marks(folder, ["> ask", "< letter 1 seen 4", "< letter 2 b 3"]), [2, 4])
        self.assertEqual(sure_marks(folder, []), [])
        self.assertEqual(sure_marks(folder, ("> ask", "> look 1", "< done 2 3")), [2])
        lines = ["> ask", "< gone 2", "< letter 1 a 4", "< done 4 3", "< letter 1 b 5", "< letter 1 a 7"]
        # Behind the gone one the mark stays until the done.
        self.assertEqual(sure_marks(folder, lines), [2, 2, 4, 5, 5])
        lines = ["< letter 1 a 3", "< come 4 - 6", "< letter 2 a 7", "> ask", "< letter 1 - 8", "< done 8 5", "< come 5 - 9"]
        self.assertEqual(sure_marks(folder, lines), [3, 3, 3, 3, 8, 9])

    def test_drawn(self):
        chance = random.Random(125)
        stayed = 0
        for _ in range(400):
            folder = played(Folder(1), some_history(chance, 1, chance.randint(0, 6), False, "ab"))
            moves, _ = some_moves(chance, folder, 6, 7)
            lines = transcript(folder, moves)
            found = sure_marks(folder, lines)
            self.assertEqual(found, searched_sure(folder, lines))
            things = [thing_of(line) for line in lines]
            self.assertEqual(len(found), sum(thing[0] in NOTICES for thing in things))
            stayed += any(thing[0] == "gone" for thing in things)
            for mark, thing in zip(found, [thing for thing in things if thing[0] in NOTICES]):
                if thing[0] == "done":
                    self.assertEqual(mark, thing[1])
        self.assertGreater(stayed, 15)

    def test_it_does_not_hang_on_the_deeds(self):
        folder = three()
        lines = ["> add 9 q", "< ok 5", "< letter 1 x 4"]
        for deeds in ([("set", (1,), ("x",)), ("append", 1, ())], [("add", (9,), "q"), ("set", (1,), ("x",)), ("remove", (3,))]):
            self.assertGreater(placings(folder, lines, deeds), 0)
        self.assertEqual(sure_marks(folder, lines), [4])

    def test_errors(self):
        folder = three()
        for value in objects():
            if not isinstance(value, Folder):
                self.assertEqual(raised(sure_marks, value, 5), ("BadFolder", value))
            if type(value) not in (list, tuple):
                self.assertEqual(raised(sure_marks, folder, value), ("BadText", -1))
            self.assertEqual(raised(sure_marks, folder, ["> ask", value]), ("BadText", 1))
        self.assertEqual(raised(sure_marks, folder, ["> ask"] * 61), ("BadText", -1))
        self.assertEqual(raised(sure_marks, folder, ["< gone 1"]), ("BadText", 0))
        self.assertEqual(raised(sure_marks, folder, ["< letter 9 - 9"]), ("BadText", 0))
        self.assertEqual(raised(sure_marks, folder, ["> look 1", "< ok 1"]), ("BadText", 1))
        self.assertEqual(sure_marks(folder, ["< letter 1 z 303"]), [3])
        self.assertEqual(raised(sure_marks, folder, ["< letter 1 z 304"]), ("TooLarge", 300))
        self.assertEqual(raised(sure_marks, folder, ["< letter 1 z 304", "< lost"]), ("BadText", 1))
        lines = ["< letter 1 z 100", "> ask", "< letter 1 y 300", "< done 300 9", "< letter 1 - 600"]
        self.assertEqual(sure_marks(folder, lines)[2:], [300, 300])
        self.assertEqual(raised(sure_marks, folder, lines[:4] + ["< letter 1 - 601"]), ("TooLarge", 300))


class Transcripts(unittest.TestCase):

    def test_value_by_value(self):
        folder = Folder(1).appended(1, ()).appended(1, ())
        moves = [("send", ("remove", "1")), ("send", ("ask",)), ("answer",), ("answer",)]
        self.assertEqual(transcript(folder, moves), ["> remove 1", "> ask", "< ok 3", "< gone 1", "< done 3 3"])
        moves = [
            ("answer",), ("others", ("append", 5, ("x",))), ("others", ("set", (2,), ("a",))), ("others", ("remove", (1,))),
            ("answer",), ("answer",), ("send", ("look", 1)), ("send", ("look", 2)), ("send", ("add", "*", "b")), ("answer",),
            ("answer",), ("answer",), ("send", ("append", 9, ())), ("send", ("ask",)), ("answer",), ("answer",), ("send", ("look", 9)),
            ("answer",), ("send", ("ask",)),
        ]
        self.assertEqual(transcript(folder, tuple(moves)), [
            "< letter 2 a 4", "< come 3 x 3", "> look 1", "> look 2", "> add * b", "< lost", "< here 2 a 4", "< ok 6", "> append 9 -",
            "> ask", "< letter 3 b,x 6", "< ok 7 4", "< gone 1", "< come 4 - 7", "< done 7 5", "> look 9", "< none", "> ask",
        ])
        self.assertEqual(transcript(folder, []), [])

    def test_places_of_letters_that_are_gone(self):
        folder = three()
        moves = [("others", ("remove", (1,))), ("others", ("set", (3,), ())), ("answer",), ("send", ("ask",)), ("answer",)]
        self.assertEqual(transcript(folder, moves), ["< letter 3 - 5", "> ask", "< gone 1", "< done 5 4"])
        moves = [("others", ("remove", (1,))), ("others", ("set", (3,), ())), ("send", ("ask",)), ("answer",)]
        self.assertEqual(transcript(folder, moves), ["> ask", "< gone 1", "< letter 2 - 5", "< done 5 4"])

    def test_they_have_a_placing(self):
        chance = random.Random(126)
        for _ in range(400):
            folder = played(Folder(1), some_history(chance, 1, chance.randint(0, 6), False, "ab"))
            moves, deeds = some_moves(chance, folder, 8, 8)
            lines = transcript(folder, moves)
            self.assertTrue(all(is_thing(thing_of(line)) for line in lines))
            if len(lines) <= 60:
                self.assertGreaterEqual(placings(folder, lines, deeds), 1)
                heard([(number, signs, mark) for number, _, signs, mark in folder.letters()], lines)
                # It is the placing of the moves themselves, too.
                self.assertTrue(is_right(folder, lines, deeds, self.placing(folder, moves)))

    def placing(self, folder, moves):
        row, many = [], 0
        for at, move in enumerate(moves):
            many += move[0] == "others"
            new = len(transcript(folder, moves[:at + 1])) - len(transcript(folder, moves[:at]))
            row += [many] * (new if move[0] == "answer" else 0)
        return tuple(row)

    def test_each_answer(self):
        chance = random.Random(127)
        for _ in range(200):
            folder = played(Folder(1), some_history(chance, 1, chance.randint(0, 6), False, "ab"))
            moves, _ = some_moves(chance, folder, 5, 6)
            session, now, waiting, lines = Session(folder), folder, [], []
            for kind, *rest in moves:
                if kind == "send":
                    waiting.append(rest[0])
                    lines.append(line_of(rest[0]))
                elif kind == "others":
                    now = played(now, rest)
                else:
                    session.see(now)
                    is_ask = waiting[:1] == [("ask",)]
                    notices = session.answer() if is_ask else self.news(session, now)
                    self.assertIsNone(session.tell(notices, is_ask))
                    lines += map(line_of, notices)
                    if waiting and not is_ask:
                        now = command_done(now, waiting[0])
                        word, *told = waiting[0]
                        end = ("ok", now.mark(), now.next_number() - 1) if word == "append" else ("ok", now.mark())
                        lines.append(line_of(look(session, now, told[0]) if word == "look" else end))
                    waiting = waiting[1:]
            self.assertEqual(transcript(folder, moves), lines)

    def news(self, session, folder):
        """The letters whose marks are new, by places, then those that came."""
        letters = {letter[0]: letter[2:] for letter in folder.letters()}
        rows, notices = session.told(), []
        for place, (number, mark) in enumerate(rows, start=1):
            if number in letters and letters[number][1] != mark:
                notices.append(("letter", place, *letters[number]))
        # A number that was told ahead and went by an ask never comes again, so those above the list that are right.
        for number in sorted(letters):
            notice = ("come", number, *letters[number])
            known = copy.deepcopy(session)
            if number not in dict(rows) and known.tell(notices + [notice], False) is None:
                notices.append(notice)
        return notices

    def test_forty_moves_and_forty_one(self):
        moves = [("send", ("append", 1, ()))] * 20 + [("answer",)] * 20
        self.assertEqual(len(transcript(three(), moves)), 59)
        self.assertEqual(raised(transcript, three(), moves + [("answer",)]), ("BadRow", -1))
        self.assertEqual(raised(transcript, three(), [5] * 41), ("BadRow", -1))

    def test_sets_mean_numbers_of_the_moment(self):
        folder = three()
        moves = [("send", ("remove", "3:*")), ("others", ("append", 1, ())), ("answer",), ("send", ("add", "*", "q")), ("answer",)]
        self.assertEqual(transcript(folder, moves)[-1], "< ok 7")
        more = Folder(1)
        for _ in range(202):
            more = more.appended(0, ())
        self.assertEqual(transcript(more, [("send", ("remove", "201:*")), ("answer",)]), ["> remove 201:*", "< ok 204"])

    def test_wrong(self):
        wrong = [
            ("send",), ("send", "ask"), ("send", ("look", 0)), ("send", ("done", 1, 1)), ("send", ("lost",)), ("answer", 1), ["answer"],
            ("others",), ("others", ("trim", 0)), ("others", ("add", 1, "a")), ("others", ("ask",)), ("send", ("add", (1,), "a")),
            ("Answer",), ("foo", ("append", 1, ())), ("answer", ("append", 1, ())), ("foo", ("ask",)), ("send", ("ask",), 1), ("send", ("add", "0", "a")), (), (5,), ([],), ("send", ["ask"]), ("others", None),
        ]
        for value in wrong + objects():
            self.assertEqual(raised(transcript, three(), [("answer",), value, 5]), ("BadRow", 1))
            if type(value) not in (list, tuple):
                self.assertEqual(raised(transcript, three(), value), ("BadRow", -1))
            if not isinstance(value, Folder):
                self.assertEqual(raised(transcript, value, 5), ("BadFolder", value))

    def test_arguments_stay(self):
        folder, moves = three(), [("send", ("add", "1", "q")), ("others", ("remove", [1])), ("answer",)]
        ahead = copy.deepcopy((moves, state(folder)))
        lines = transcript(folder, moves)
        deeds = [moves[1][1]]
        placings(folder, lines, deeds)
        first_placing(folder, lines, deeds)
        wrong_line(folder, lines, deeds)
        sure_marks(folder, lines)
        self.assertEqual((moves, state(folder)), ahead)
        lines.clear()
        self.assertEqual(len(transcript(folder, moves)), 2)
        self.assertEqual(applied([], []), [])


if __name__ == "__main__":
    unittest.main()
