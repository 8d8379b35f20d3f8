"""Lines of a session: the things that they tell, and what a client hears of them."""

from mailtide.errors import BadText, BadValue
from mailtide.kinds import is_mark, is_number, is_sign, is_signs, signs_text
from mailtide.sets import GREATEST, MOST_FIGURES, is_set_text
from mailtide.views import behind, check_entries, fits

MOST_LINES = 60

# What stands behind the first word of a line of the client, and of the server.
COMMANDS = {
    "ask": (),
    "look": ("number",),
    "add": ("set", "sign"),
    "take": ("set", "sign"),
    "set": ("set", "signs"),
    "remove": ("set",),
    "append": ("mark", "signs"),
}
TOLD = {
    "come": ("number", "signs", "mark"),
    "letter": ("number", "signs", "mark"),
    "gone": ("number",),
    "done": ("mark", "number"),
    "here": ("number", "signs", "mark"),
    "lost": (),
    "none": (),
    "ok": ("mark",),
}


def line_of(thing):
    """The line that tells a thing."""
    if not is_thing(thing):
        raise BadValue("thing")
    words = [">" if thing[0] in COMMANDS else "<", thing[0]]
    for told in thing[1:]:
        words.append(signs_text(told) if isinstance(told, tuple) else str(told))
    return " ".join(words)


def thing_of(line):
    """The thing that a line tells."""
    if not isinstance(line, str):
        raise BadText(-1)
    words = line.split(" ")
    if words[0] not in (">", "<"):
        raise BadText(0)
    kinds = _kinds_of(words[0], words[1], len(words) - 2) if len(words) > 1 else None
    if kinds is None:
        raise BadText(1)
    thing = [words[1]]
    for at, kind in enumerate(kinds, start=2):
        told = _told_by(kind, words[at]) if at < len(words) else None
        if told is None:
            raise BadText(at)
        thing.append(told)
    if len(words) > len(kinds) + 2:
        raise BadText(len(kinds) + 2)
    return tuple(thing)


def heard(entries, lines):
    """The list of a client behind lines, and the list of the commands that are open."""
    check_entries(entries)
    if not isinstance(lines, (list, tuple)) or len(lines) > MOST_LINES:
        raise BadText(-1)
    rows, floor, waiting = list(entries), 0, []
    for at, line in enumerate(lines):
        if not is_line(line):
            raise BadText(at)
        thing = thing_of(line)
        if is_command(thing):
            waiting.append(thing)
            continue
        if not can_come(thing, waiting) or is_notice_of_line(thing) and not fits(rows, floor, thing):
            raise BadText(at)
        if is_notice_of_line(thing):
            rows = behind(rows, thing)
        if thing[0] == "done":
            floor = thing[1]
        if is_end(thing):
            waiting = waiting[1:]
    return (rows, waiting)


def is_line(value):
    """Whether the value is a line."""
    try:
        thing_of(value)
    except BadText:
        return False
    return True


def is_thing(value):
    """Whether the value is a thing that a line can tell."""
    if not isinstance(value, tuple) or not value or not isinstance(value[0], str):
        return False
    kinds = _kinds_of(">" if value[0] in COMMANDS else "<", value[0], len(value) - 1)
    if kinds is None or len(kinds) + 1 != len(value):
        return False
    return all([_is_told(kind, told) for kind, told in zip(kinds, value[1:])])


def is_command(thing):
    """Whether a thing is a command of the client."""
    return thing[0] in COMMANDS


def is_notice_of_line(thing):
    """Whether a thing is a notice."""
    return thing[0] in ("come", "letter", "gone", "done")


def is_end(thing):
    """Whether a thing is that of an end line."""
    return thing[0] in ("done", "here", "lost", "none", "ok")


def can_come(thing, waiting):
    """Whether a server can tell this while these commands are open, whatever it tells of letters."""
    if thing[0] in ("come", "letter"):
        return True
    if not waiting:
        return False
    word = waiting[0][0]
    if thing[0] in ("gone", "done"):
        return word == "ask"
    if thing[0] == "ok":
        return word not in ("ask", "look") and (word == "append") == (len(thing) == 3)
    return word == "look"


def _kinds_of(side, word, many):
    """The kinds of what stands behind a word of a side, many as it may be, or None if there is no such word."""
    if side == ">":
        return COMMANDS.get(word)
    kinds = TOLD.get(word)
    # The answer to an append has one more.
    return kinds + ("number",) if word == "ok" and many > 1 else kinds


def _told_by(kind, word):
    """What a word tells, or None if it is none of this kind."""
    told = word
    if kind == "signs":
        told = tuple(word.split(",")) if word != "-" else ()
    elif kind in ("number", "mark"):
        told = _integer_of(word)
    return told if _is_told(kind, told) else None


def _integer_of(word):
    """The integer that a word tells, or None."""
    # Figures of other scripts are digits to Python, too.
    if not word.isascii() or not word.isdigit() or len(word) > MOST_FIGURES:
        return None
    return int(word) if word == "0" or word[0] != "0" else None


def _is_told(kind, value):
    """Whether the value is one of this kind."""
    if kind == "set":
        return is_set_text(value)
    if kind == "sign":
        return is_sign(value)
    if kind == "signs":
        return is_signs(value)
    is_fine = is_number(value) if kind == "number" else is_mark(value)
    return is_fine and value <= GREATEST
