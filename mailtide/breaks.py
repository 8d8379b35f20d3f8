"""Rows of commands behind which the line broke: which of them can be sent again, and what must be asked ahead."""

from itertools import combinations

from mailtide.errors import BadDeed, BadFolder, BadKey, BadValue, TooLarge
from mailtide.folders import Folder, copied, moved
from mailtide.histories import done, is_deed
from mailtide.kinds import is_body, is_integer, is_number, is_sign

MOST_COMMANDS = 8
MOST_ACTS = 6
MOST_QUESTIONS = 10


def contents(folder):
    """What a folder has, its marks left aside: (the next number, the tuple of (number, body, signs))."""
    _check_folder(folder)
    return _contents(folder)


def behind(folder, row, p):
    """The folder when the server has done the first p commands of a row."""
    _check_folder(folder)
    _check_row(row)
    if not is_integer(p) or not 0 <= p <= len(row):
        raise BadValue("p")
    return _behind(folder, row[:p])


def good(folder, row, acts=()):
    """The list of (p, a, the resumes that are good in this state)."""
    _check_folder(folder)
    _check_row(row)
    _check_acts(acts, len(row))
    return [(p, a, resumes) for p, a, _, resumes in _states(folder, row, acts)]


def again(folder, command, acts=()):
    """Whether a command may be sent again in any case."""
    _check_folder(folder)
    if not _is_command(command):
        raise BadDeed(0)
    _check_acts(acts, 1)
    return all([0 in state[3] for state in _states(folder, (command,), acts)])


def answer(folder, question):
    """What a folder answers to a question."""
    _check_folder(folder)
    if not _is_question(question):
        raise BadKey(question)
    return _answer(folder, question)


def plan(folder, row, questions, acts=()):
    """The list of (answers, the least resume that is good behind them), or None if the questions do not suffice."""
    states, answers = _asked_states(folder, row, questions, acts)
    return _plan(states, answers)


def least_questions(folder, row, offers, acts=()):
    """The indexes of the fewest and first offered questions that suffice, or None."""
    states, rows = _asked_states(folder, row, offers, acts)
    for many in range(len(offers) + 1):
        for chosen in combinations(range(len(offers)), many):
            if _plan(states, [tuple([answers[at] for at in chosen]) for answers in rows]) is not None:
                return chosen
    return None


def doubt(folder, row, questions, acts=()):
    """The first two states with the same answers and no good resume in common, or None."""
    states, answers = _asked_states(folder, row, questions, acts)
    for at, place in combinations(range(len(states)), 2):
        one, two = states[at], states[place]
        if answers[at] == answers[place] and not _common(one[3], two[3]):
            return (one[:2], two[:2])
    return None


def _states(folder, row, acts):
    """The list of all states, each as (p, a, the folder, the resumes that are good)."""
    states = []
    for p in range(len(row) + 1):
        reached = _behind(folder, row[:p])
        for a in range(-1, len(acts)):
            now = reached if a == -1 else _command_done(reached, acts[a])
            ends = [_contents(_behind(now, row[r:])) for r in range(len(row) + 1)]
            states.append((p, a, now, tuple([r for r, end in enumerate(ends) if end == ends[p]])))
    return states


def _asked_states(folder, row, questions, acts):
    """The list of all states, and for each of them the tuple of the answers to the questions."""
    _check_folder(folder)
    _check_row(row)
    _check_questions(questions)
    _check_acts(acts, len(row))
    states = _states(folder, row, acts)
    return (states, [tuple([_answer(state[2], question) for question in questions]) for state in states])


def _plan(states, answers):
    """The list of (answers, the least resume that is good in all states with them); None if one has no such resume."""
    resumes = {}
    for state, told in zip(states, answers):
        resumes[told] = _common(resumes[told], state[3]) if told in resumes else state[3]
        if not resumes[told]:
            return None
    return [(told, resumes[told][0]) for told in resumes]


def _common(one, two):
    """The resumes that are in both."""
    return tuple([r for r in one if r in two])


def _contents(folder):
    """What a folder has, its marks left aside."""
    return (folder.next_number(), tuple([letter[:3] for letter in folder.letters()]))


def _behind(folder, commands):
    """The folder behind some commands."""
    for command in commands:
        folder = _command_done(folder, command)
    return folder


def _command_done(folder, command):
    """The folder behind a command."""
    if command[0] == "copy":
        return copied(folder, None, command[1:])[0]
    if command[0] == "move":
        return moved(folder, None, command[1:])[0]
    return done(folder, command)


def _answer(folder, question):
    """What a folder answers to a question."""
    word = question[0]
    letters = folder.letters()
    if word == "next":
        return folder.next_number()
    if word == "count":
        return len(letters)
    if word == "mark":
        return folder.mark()
    wanted = question[1]
    if word == "signs":
        found = [letter[2] for letter in letters if letter[0] == wanted]
        return found[0] if found else None
    if word == "body":
        return tuple([letter[0] for letter in letters if letter[1] == wanted])
    return tuple([letter[0] for letter in letters if wanted in letter[2]])


def _is_command(value):
    """Whether the value is a command."""
    if isinstance(value, tuple) and len(value) == 2 and value[0] in ("copy", "move"):
        return is_number(value[1])
    return is_deed(value) and value[0] != "trim"


def _is_question(value):
    """Whether the value is a question."""
    if not isinstance(value, tuple) or len(value) not in (1, 2) or not isinstance(value[0], str):
        return False
    if len(value) == 1:
        return value[0] in ("next", "count", "mark")
    if value[0] == "signs":
        return is_number(value[1])
    return value[0] == "body" and is_body(value[1]) or value[0] == "sign" and is_sign(value[1])


def _check_folder(folder):
    """Raise BadFolder if this is no folder."""
    if not isinstance(folder, Folder):
        raise BadFolder(folder)


def _check_row(row):
    """Raise BadDeed if this is no row of commands."""
    if not isinstance(row, (list, tuple)) or len(row) > MOST_COMMANDS:
        raise BadDeed(-1)
    for at, command in enumerate(row):
        if not _is_command(command):
            raise BadDeed(at)


def _check_acts(acts, many):
    """Raise BadDeed if these are no acts; they are counted on behind so many commands."""
    if not isinstance(acts, (list, tuple)) or len(acts) > MOST_ACTS:
        raise BadDeed(-1)
    for at, act in enumerate(acts):
        if not _is_command(act):
            raise BadDeed(many + at)


def _check_questions(questions):
    """Raise an error if these are no questions, or too many."""
    if not isinstance(questions, (list, tuple)):
        raise BadKey(questions)
    for question in questions:
        if not _is_question(question):
            raise BadKey(question)
    if len(questions) > MOST_QUESTIONS:
        raise TooLarge(MOST_QUESTIONS)
