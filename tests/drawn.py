"""Drawn folders, deeds and histories."""

from mailtide.folders import Folder
from mailtide.histories import played


def some_signs(chance, names="abcdefg", most=6):
    """Signs."""
    return tuple(sorted(chance.sample(names, chance.randint(0, min(most, len(names))))))


def some_numbers(chance, folder, most=4):
    """Numbers of letters, some perhaps not there, as a list or tuple, in any order."""
    numbers = [chance.randint(1, folder.next_number() + 1) for _ in range(chance.randint(0, most))]
    return chance.choice((list, tuple))(numbers)


def some_deed(chance, folder, trims=True, names="abcdefg"):
    """A deed that can be done to the folder."""
    words = ["append", "append", "add", "take", "set", "set", "remove"] + ["trim"] * trims
    word = chance.choice(words)
    numbers, signs = some_numbers(chance, folder), some_signs(chance, names)
    return {
        "append": ("append", chance.randint(0, 3), signs),
        "add": ("add", numbers, chance.choice(names)),
        "take": ("take", numbers, chance.choice(names)),
        "set": ("set", numbers, signs),
        "remove": ("remove", numbers[:2]),
        "trim": ("trim", chance.randint(0, folder.mark())),
    }[word]


def some_history(chance, age, marks, trims=True, names="abcdefg"):
    """A history with so many changes or a few more, behind a new folder."""
    folder, history = Folder(age), []
    while folder.mark() < marks:
        deed = some_deed(chance, folder, trims, names)
        history.append(deed)
        folder = played(folder, [deed])
    return history
