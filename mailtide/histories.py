"""Histories: deeds as data, done to a folder one after the other."""

from mailtide.errors import BadDeed, BadFolder
from mailtide.folders import Folder
from mailtide.kinds import is_body, is_mark, is_numbers, is_sign, is_signs


def played(folder, history):
    """The folder behind a history."""
    if not isinstance(folder, Folder):
        raise BadFolder(folder)
    if not isinstance(history, (list, tuple)):
        raise BadDeed(-1)
    for at, deed in enumerate(history):
        if not can_be_done(folder, deed):
            raise BadDeed(at)
        folder = done(folder, deed)
    return folder


def is_deed(value):
    """Whether the value is a deed; no folder is there to hold the mark of a trim against."""
    if not isinstance(value, tuple) or len(value) not in (2, 3) or not isinstance(value[0], str):
        return False
    word, first = value[0], value[1]
    if len(value) == 2:
        return word == "remove" and is_numbers(first) or word == "trim" and is_mark(first)
    if word == "append":
        return is_body(first) and is_signs(value[2])
    if word in ("add", "take"):
        return is_numbers(first) and is_sign(value[2])
    return word == "set" and is_numbers(first) and is_signs(value[2])


def can_be_done(folder, value):
    """Whether the value is a deed that can be done to this folder now."""
    if not is_deed(value):
        return False
    return value[0] != "trim" or value[1] <= folder.mark()


def done(folder, deed):
    """The folder behind a deed that can be done to it."""
    word, first = deed[0], deed[1]
    if word == "append":
        return folder.appended(first, deed[2])
    if word == "add":
        return folder.added(first, deed[2])
    if word == "take":
        return folder.taken(first, deed[2])
    if word == "set":
        return folder.set_to(first, deed[2])
    if word == "remove":
        return folder.removed(first)
    return folder.trimmed(first)


def done_up_to(folder, deed, mark):
    """The folder behind those changes of a deed that have marks up to this one, a mark the deed goes beyond."""
    if deed[0] == "append":
        return folder
    for number in sorted(set(deed[1])):
        later = done(folder, (deed[0], (number,)) + deed[2:])
        if later.mark() > mark:
            return folder
        folder = later
    return folder
