"""Sessions in lines: which deeds of others make them right, what marks they make sure, and lines of a right server."""

from mailtide.errors import BadDeed, BadFolder, BadRow
from mailtide.folders import Folder
from mailtide.histories import done, is_deed
from mailtide.lines import (
    MOST_LINES, can_come, heard, is_command, is_end, is_line, is_notice_of_line, is_thing, line_of, thing_of,
)
from mailtide.sets import found_among, items_of
from mailtide.sure import sure_mark
from mailtide.views import answer_to_ask, behind_right, entries_of, news, opened

MOST_DEEDS = 12
MOST_MOVES = 40


def placings(folder, lines, deeds):
    """How many placings of the deeds of others there are."""
    _check(folder, lines, deeds)
    _, moments = _judged(folder, lines, deeds)
    return sum([moment.ways() for moment in moments])


def first_placing(folder, lines, deeds):
    """The least placing of the deeds of others, or None."""
    _check(folder, lines, deeds)
    _, moments = _judged(folder, lines, deeds)
    return min([moment.placing() for moment in moments], default=None)


def wrong_line(folder, lines, deeds):
    """The index of the first line such that the lines up to it have no placing, or None."""
    _check(folder, lines, deeds)
    at, _ = _judged(folder, lines, deeds)
    return at


def sure_marks(folder, lines):
    """The list of the greatest sure marks behind each notice."""
    if not isinstance(folder, Folder):
        raise BadFolder(folder)
    first = entries_of(folder)
    heard(first, lines)
    entries, mark, upcoming, notices = first, folder.mark(), folder.next_number(), []
    last, is_reckoned = mark, True
    marks = []
    for at, line in enumerate(lines):
        thing = thing_of(line)
        if not is_notice_of_line(thing):
            continue
        if thing[0] == "done":
            entries, mark, upcoming, notices = heard(first, lines[:at + 1])[0], thing[1], thing[2], []
            last, is_reckoned = mark, True
        elif is_reckoned:
            comes = [notice for notice in notices if notice[0] == "come"]
            is_reckoned = thing[0] == "letter" or thing[0] == "come" and thing[1] == upcoming + len(comes)
            if is_reckoned:
                notices.append(thing)
                last = sure_mark(entries, mark, upcoming, notices)
        marks.append(last)
    return marks


def transcript(folder, moves):
    """The lines of a right server."""
    if not isinstance(folder, Folder):
        raise BadFolder(folder)
    _check_moves(moves)
    told, waiting, lines = opened(folder), [], []
    for move in moves:
        if move[0] == "send":
            waiting.append(move[1])
            lines.append(line_of(move[1]))
            continue
        if move[0] == "others":
            folder = done(folder, move[1])
            continue
        is_ask = waiting[:1] == [("ask",)]
        for notice in answer_to_ask(told, folder) if is_ask else news(told, folder):
            told = behind_right(told, folder, notice, is_ask)
            lines.append(line_of(notice))
        if waiting and not is_ask:
            folder = _command_done(folder, waiting[0])
            lines.append(line_of(_end_line(told, folder, waiting[0])))
        waiting = waiting[1:]
    return lines


class Moment:
    """What can be so behind some lines: how many deeds others have done, the folder, and what the session has told.

    It also has how many placings of the lines lead to it, and the least one of them.
    """

    def __init__(self, others, folder, told, ways, placing):
        self._others = others
        self._folder = folder
        self._told = told
        self._ways = ways
        self._placing = placing

    def others(self):
        """How many deeds others have done."""
        return self._others

    def ways(self):
        """How many placings lead to it."""
        return self._ways

    def placing(self):
        """The least placing that leads to it."""
        return self._placing

    def key(self):
        """What tells whether two moments are the same, but for the placings that lead to them."""
        rows, top, floor = self._told
        folder = self._folder
        return (self._others, tuple(folder.letters()), folder.next_number(), folder.mark(), tuple(rows), top, floor)

    def joined(self, other):
        """The moment with the placings of another one, which is the same but for these."""
        ways, placing = self._ways + other.ways(), min(self._placing, other.placing())
        return Moment(self._others, self._folder, self._told, ways, placing)

    def with_deed(self, deed):
        """The moment when others have done one more deed."""
        return Moment(self._others + 1, done(self._folder, deed), self._told, self._ways, self._placing)

    def behind_line(self, thing, waiting):
        """The moment behind a line that can come while these commands are open, or None if it is not right."""
        folder, told = self._folder, self._told
        if is_notice_of_line(thing):
            told = behind_right(told, folder, thing, waiting[:1] == [("ask",)])
        else:
            folder = _command_done(folder, waiting[0])
            if thing != _end_line(told, folder, waiting[0]):
                told = None
        if told is None:
            return None
        return Moment(self._others, folder, told, self._ways, self._placing + (self._others,))


def _judged(folder, lines, deeds):
    """The index of the first wrong line, or None, and the list of what can be so behind all lines."""
    moments = [Moment(0, folder, opened(folder), 1, ())]
    waiting = []
    for at, line in enumerate(lines):
        if not is_line(line):
            return (at, [])
        thing = thing_of(line)
        if is_command(thing):
            waiting.append(thing)
            continue
        if not can_come(thing, waiting):
            return (at, [])
        later = [moment.behind_line(thing, waiting) for moment in _with_deeds(moments, deeds)]
        moments = _merged([moment for moment in later if moment is not None])
        if not moments:
            return (at, [])
        if is_end(thing):
            waiting = waiting[1:]
    return (None, moments)


def _with_deeds(moments, deeds):
    """The moments when others have done any number of more deeds."""
    found = []
    carried = []
    for many in range(len(deeds) + 1):
        carried = _merged(carried + [moment for moment in moments if moment.others() == many])
        found.extend(carried)
        if many < len(deeds):
            carried = [moment.with_deed(deeds[many]) for moment in carried]
    return found


def _merged(moments):
    """The moments, each once, with all placings that lead to them."""
    known = {}
    for moment in moments:
        key = moment.key()
        if key in known:
            known[key] = known[key].joined(moment)
        else:
            known[key] = moment
    return list(known.values())


def _command_done(folder, command):
    """The folder behind a command that the server does."""
    word = command[0]
    if word in ("ask", "look"):
        return folder
    if word == "append":
        return folder.appended(command[1], command[2])
    numbers = found_among(items_of(command[1]), [letter[0] for letter in folder.letters()])
    return done(folder, (word, numbers) + command[2:])


def _end_line(told, folder, command):
    """The thing of the end line of a command, an ask left aside, when it has been done."""
    if command[0] == "append":
        return ("ok", folder.mark(), folder.next_number() - 1)
    if command[0] != "look":
        return ("ok", folder.mark())
    rows = told[0]
    if command[1] > len(rows):
        return ("none",)
    found = [entry for entry in entries_of(folder) if entry[0] == rows[command[1] - 1][0]]
    return ("here",) + found[0] if found else ("lost",)


def _check(folder, lines, deeds):
    """Raise the error of the first of these that is wrong."""
    if not isinstance(folder, Folder):
        raise BadFolder(folder)
    if not isinstance(lines, (list, tuple)) or len(lines) > MOST_LINES:
        raise BadRow(-1)
    if not isinstance(deeds, (list, tuple)) or len(deeds) > MOST_DEEDS:
        raise BadDeed(-1)
    for at, deed in enumerate(deeds):
        if not _is_deed_of_others(deed):
            raise BadDeed(at)


def _check_moves(moves):
    """Raise BadRow if these are no moves."""
    if not isinstance(moves, (list, tuple)) or len(moves) > MOST_MOVES:
        raise BadRow(-1)
    for at, move in enumerate(moves):
        if not _is_move(move):
            raise BadRow(at)


def _is_move(value):
    """Whether the value is a move."""
    if not isinstance(value, tuple) or not value or not isinstance(value[0], str):
        return False
    if len(value) == 1:
        return value[0] == "answer"
    if len(value) != 2:
        return False
    if value[0] == "send":
        return is_thing(value[1]) and is_command(value[1])
    return value[0] == "others" and _is_deed_of_others(value[1])


def _is_deed_of_others(value):
    """Whether the value is a deed, and no trim."""
    return is_deed(value) and value[0] != "trim"
