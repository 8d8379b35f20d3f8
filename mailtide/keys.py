"""Keys of searches: what is one, what letters fulfil it, and the cases in which two keys can find unlike letters."""

from itertools import combinations

from mailtide.kinds import is_mark, is_sign
from mailtide.sets import STAR, found_among, is_set_text, items_of

MOST_BESIDE = 10
MOST_KEYS = 60
MOST_WITHIN = 12


def is_key(value):
    """Whether the value is a key."""
    return _count_keys(value, MOST_WITHIN, MOST_KEYS) is not None


def fulfilled(key, letters):
    """For each letter of a folder whether it fulfils a key."""
    word = key[0]
    if word == "all":
        return [True for _ in letters]
    if word == "sign":
        return [key[1] in letter[2] for letter in letters]
    if word == "number":
        found = {number: True for number in found_among(items_of(key[1]), [letter[0] for letter in letters])}
        return [letter[0] in found for letter in letters]
    if word == "since":
        return [letter[3] > key[1] for letter in letters]
    if word == "not":
        return [not value for value in fulfilled(key[1], letters)]
    columns = [fulfilled(part, letters) for part in key[1]]
    rows = [[column[at] for column in columns] for at in range(len(letters))]
    return [all(row) if word == "and" else any(row) for row in rows]


def plain(key):
    """The same key with "not" only ahead of keys that have none within them, and are not "all"."""
    word = key[0]
    if word in ("and", "or"):
        return (word, tuple([plain(part) for part in key[1]]))
    if word != "not":
        return key
    word = key[1][0]
    if word == "all":
        return ("or", ())
    if word == "not":
        return plain(key[1][1])
    if word in ("and", "or"):
        return ("or" if word == "and" else "and", tuple([plain(("not", part)) for part in key[1][1]]))
    return key


class Cases:
    """The letters by which two keys can find unlike things: their numbers, marks and signs, as far as these matter."""

    def __init__(self, key, other):
        self._key = key
        self._other = other
        self._atoms = list({atom: True for atom in _atoms(key) + _atoms(other)})
        self._names = sorted({atom[1] for atom in self._atoms if atom[0] == "sign"})
        self._marks = sorted({atom[1] for atom in self._atoms if atom[0] == "since"})
        texts = [atom[1] for atom in self._atoms if atom[0] == "number"]
        self._numbers = sorted({end for text in texts for item in items_of(text) for end in item if end != STAR})
        # A sign that no key names does not matter.
        names = self._names
        self._sets = [signs for many in range(len(names) + 1) for signs in combinations(names, many)]

    def count_signs(self):
        """How many different signs the keys name."""
        return len(self._names)

    def count_numbers(self):
        """How many different numbers stand in their set texts."""
        return len(self._numbers)

    def count_marks(self):
        """How many different marks stand in them."""
        return len(self._marks)

    def rows(self, is_greatest):
        """The list of (number, mark, one, two) for the letters that are the greatest ones of their folders, or not.

        One and two tell for which sets of signs such a letter fulfils the keys: the bits of integers, by sets().
        """
        rows = []
        for number in sorted(set([1] + self._numbers + [bound + 1 for bound in self._numbers])):
            known = {atom: self._value_of(atom, number, is_greatest) for atom in self._atoms if atom[0] != "since"}
            # The mark of a letter is its number at least.
            for mark in [number] + [bound + 1 for bound in self._marks if bound >= number]:
                rows.append((number, mark, self._value(self._key, known, mark), self._value(self._other, known, mark)))
        return rows

    def sets(self):
        """All sets of the signs that the keys name: those of few signs first, then as tuples."""
        return list(self._sets)

    def full(self):
        """What stands for all sets of signs."""
        return (1 << len(self._sets)) - 1

    def _value_of(self, atom, number, is_greatest):
        """For which sets of signs a letter with this number fulfils a key that names no mark."""
        if atom[0] == "sign":
            return sum([1 << at for at, signs in enumerate(self._sets) if atom[1] in signs])
        if atom[0] == "number":
            # Which number is the greatest one does not matter to a lesser one.
            there = (number,) if is_greatest else (number, number + 1)
            return self.full() if number in found_among(items_of(atom[1]), there) else 0
        return self.full()

    def _value(self, key, known, mark):
        """For which sets of signs a letter with this mark fulfils a key; known has that of the keys without marks."""
        word = key[0]
        if word == "since":
            return self.full() if mark > key[1] else 0
        if word == "not":
            return self.full() ^ self._value(key[1], known, mark)
        if word not in ("and", "or"):
            return known[key]
        value = self.full() if word == "and" else 0
        for part in key[1]:
            if word == "and":
                value &= self._value(part, known, mark)
            else:
                value |= self._value(part, known, mark)
        return value


def _atoms(key):
    """The list of the keys without keys within them that a key has."""
    if key[0] == "not":
        return _atoms(key[1])
    if key[0] not in ("and", "or"):
        return [key]
    atoms = []
    for part in key[1]:
        atoms.extend(_atoms(part))
    return atoms


def _count_keys(value, depth, most):
    """How many keys a key has, itself too; None if it is none, or is too deep or too large for these limits."""
    if depth == 0 or most == 0 or not isinstance(value, tuple) or not value or not isinstance(value[0], str):
        return None
    if value == ("all",) or len(value) == 2 and _is_atom(value[0], value[1]):
        return 1
    parts = _parts(value)
    if parts is None:
        return None
    many = 1
    for part in parts:
        more = _count_keys(part, depth - 1, most - many)
        if more is None:
            return None
        many += more
    return many


def _is_atom(word, told):
    """Whether a word and what is told with it are a key without keys within it."""
    if word == "sign":
        return is_sign(told)
    if word == "since":
        return is_mark(told)
    return word == "number" and is_set_text(told)


def _parts(value):
    """The keys right within a value with a word, or None if it has not the form of such a key."""
    if len(value) != 2:
        return None
    if value[0] == "not":
        return (value[1],)
    if value[0] in ("and", "or") and isinstance(value[1], tuple) and len(value[1]) <= MOST_BESIDE:
        return value[1]
    return None
