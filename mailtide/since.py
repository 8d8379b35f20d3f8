"""What has changed since a mark: views of folders, the answers that lead on from them, and what spoils an answer."""

from mailtide.errors import BadDeed, BadFolder, BadRow, BadValue, TooLarge
from mailtide.folders import Folder
from mailtide.histories import done, done_up_to, played
from mailtide.kinds import is_ascending, is_body, is_mark, is_number, is_numbers, is_signs
from mailtide.pasts import Past

MOST_MARKS = 40


def view_of(folder):
    """The view of a folder as it is."""
    if not isinstance(folder, Folder):
        raise BadFolder(folder)
    rows = [(number, body, signs) for number, body, signs, _ in folder.letters()]
    return (folder.age(), folder.mark(), tuple(rows))


def view_at(age, history, mark):
    """The view right behind the change with this mark of the folder that goes by a history."""
    folder = Folder(age)
    many = played(folder, history).mark()
    if not is_mark(mark) or mark > many:
        raise BadValue("mark")
    for deed in history:
        later = done(folder, deed)
        if later.mark() > mark:
            return view_of(done_up_to(folder, deed, mark))
        folder = later
    return view_of(folder)


def followed(view, answer):
    """The view that comes of a view by an answer."""
    if not _is_view(view):
        raise BadValue("view")
    if not _is_told(answer):
        raise BadValue("answer")
    age, mark, rows = view
    if mark != answer[0]:
        raise BadValue("mark")
    table = {row[0]: row for row in rows}
    for number in answer[3]:
        if number in table:
            del table[number]
    for at, (number, body, signs) in enumerate(answer[2]):
        if body is None:
            if number not in table:
                raise BadRow(at)
            body = table[number][1]
        table[number] = (number, body, signs)
    return (age, answer[1], tuple([table[number] for number in sorted(table)]))


def next_numbers(folder, mark):
    """The ascending list of the next numbers that the folder can have had at this mark."""
    _check_place(folder, mark)
    return Past(folder).next_numbers(mark)


def answer(folder, mark):
    """The least answer that is right for all views that are possible at this mark."""
    _check_place(folder, mark)
    return _least_answer(folder, mark, Past(folder))


def answer_for(folder, mark, numbers):
    """The least answer that is right for the possible views with just these numbers."""
    _check_place(folder, mark)
    if not is_numbers(numbers) or not is_ascending(numbers) or not Past(folder).can_have_had(numbers, mark):
        raise BadValue("numbers")
    there = {letter[0]: True for letter in folder.letters()}
    gone = tuple([number for number in numbers if number not in there])
    known = {number: True for number in numbers}
    return (mark, folder.mark(), _changed_since(folder, mark, known), gone)


def is_answer(folder, mark, value):
    """Whether the value is a right answer."""
    _check_place(folder, mark)
    return _is_right(folder, mark, value, _least_answer(folder, mark, Past(folder)))


def spoiler(folder, mark, value):
    """A history that shows that the value is no right answer; None if it is one."""
    _check_place(folder, mark)
    past = Past(folder)
    least = _least_answer(folder, mark, past)
    if _is_right(folder, mark, value, least):
        return None
    if _is_told(value):
        for number in least[3]:
            if number not in value[3]:
                return past.history_with(number, mark)
    # A letter that need not have been there at the mark was not there by this one; any other fault shows by each.
    return past.history_with_fewest(mark)


def spoils(folder, mark, value, history):
    """Whether the history leads to the folder, and shows that the value is no right answer."""
    _check_place(folder, mark)
    try:
        end = played(Folder(folder.age()), history)
    except BadDeed:
        return False
    if end != folder:
        return False
    if not _is_told(value) or (value[0], value[1]) != (mark, folder.mark()):
        return True
    try:
        view = followed(view_at(folder.age(), history, mark), value)
    except BadRow:
        return True
    return view != view_of(folder)


def _check_place(folder, mark):
    """Raise the error of what is no folder, one with too many marks, or no mark of it."""
    if not isinstance(folder, Folder):
        raise BadFolder(folder)
    if folder.mark() > MOST_MARKS:
        raise TooLarge(MOST_MARKS)
    if not is_mark(mark) or mark > folder.mark():
        raise BadValue("mark")


def _least_answer(folder, mark, past):
    """The least answer that is right for a folder of this past."""
    fewest = past.next_numbers(mark)[0]
    known = {number: True for number in range(1, fewest)}
    return (mark, folder.mark(), _changed_since(folder, mark, known), tuple(past.gone_since(mark)))


def _changed_since(folder, mark, known):
    """The rows of the letters with greater marks, without the bodies of those that are known."""
    rows = []
    for number, body, signs, changed in folder.letters():
        if changed > mark:
            rows.append((number, None if number in known else body, signs))
    return tuple(rows)


def _is_right(folder, mark, value, least):
    """Whether the value is an answer that tells no less than the least one, and nothing that is not so."""
    if not _is_told(value) or value[:2] != least[:2]:
        return False
    gone = {number: True for number in value[3]}
    if not all([number in gone for number in least[3]]):
        return False
    told = {row[0]: row for row in value[2]}
    needed = {row[0]: row for row in least[2]}
    many = 0
    for number, body, signs, _ in folder.letters():
        row = told.get(number)
        if row is None:
            if number in needed or number in gone:
                return False
        else:
            many += 1
            can_be_none = number not in gone and (number not in needed or needed[number][1] is None)
            if row[2] != signs or row[1] != body and not (row[1] is None and can_be_none):
                return False
    return many == len(told)


def _is_view(value):
    """Whether the value is a view."""
    if not isinstance(value, tuple) or len(value) != 3:
        return False
    return is_number(value[0]) and is_mark(value[1]) and _are_rows(value[2], False)


def _is_told(value):
    """Whether the value is an answer, right or not."""
    if not isinstance(value, tuple) or len(value) != 4:
        return False
    mark, now, changed, gone = value
    if not is_mark(mark) or not is_mark(now) or not _are_rows(changed, True):
        return False
    return isinstance(gone, tuple) and is_numbers(gone) and is_ascending(gone)


def _are_rows(value, is_open):
    """Whether the value is an ascending tuple of (number, body, signs); if it is open, None can stand for a body."""
    if not isinstance(value, tuple):
        return False
    for row in value:
        if not isinstance(row, tuple) or len(row) != 3 or not is_number(row[0]) or not is_signs(row[2]):
            return False
        if not is_body(row[1]) and not (is_open and row[1] is None):
            return False
    return is_ascending([row[0] for row in value])
