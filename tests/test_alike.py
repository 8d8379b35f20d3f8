"""[10.1] to [10.5]: what two sights of a folder tell, against a search through all rows of changes."""

import itertools
import random
import unittest

from mailtide.alike import between, fewest_at_once, most_at_once, surely, ways
from mailtide.errors import BadValue, TooLarge
from mailtide.folders import Folder
from tests.wrong import is_whole, objects, raised

WORDS = ["all", "none", "some", "open"]


def is_sight(value):
    """Whether the value is a possible sight, as the document words it."""
    if type(value) is not tuple or len(value) != 4:
        return False
    age, count, upcoming, mark = value
    if not (is_whole(age, 1) and is_whole(count, 0) and is_whole(upcoming, 1) and is_whole(mark, 0)):
        return False
    return count < upcoming and mark >= 2 * (upcoming - 1) - count and (upcoming > 1 or mark == 0)


def sights(most_next, most_mark, age=1):
    rows = itertools.product(range(most_next), range(1, most_next + 1), range(most_mark + 1))
    return [(age, *row) for row in rows if is_sight((age, *row))]


def steps(state, s):
    """All changes of a state: (the letters, each with its signs, the next number), as a list of states behind."""
    letters, upcoming = state
    rows = [(letters + ((upcoming, signs),), upcoming + 1) for signs in range(2 ** s)]
    for at, (number, signs) in enumerate(letters):
        rows.append((letters[:at] + letters[at + 1:], upcoming))
        others = [other for other in range(2 ** s) if other != signs]
        rows += [(letters[:at] + ((number, other),) + letters[at + 1:], upcoming) for other in others]
    return rows


def start(sight):
    """A state with this sight, as far as what comes behind hangs on it."""
    _, count, upcoming, _ = sight
    return (tuple((number, 0) for number in range(upcoming - count, upcoming)), upcoming)


def searched_rows(one, other, s):
    """All rows of states from one sight to another, by all changes."""
    many = other[3] - one[3]
    if one[0] != other[0] or many < 0:
        return []
    rows = [[start(one)]]
    for _ in range(many):
        rows = [row + [later] for row in rows for later in steps(row[-1], s)]
    return [row for row in rows if (len(row[-1][0]), row[-1][1]) == (other[1], other[2])]


def searched_ways(one, other, s):
    """How many rows there are, by counts of states of letters alone."""
    table = {start(one): 1}
    if one[0] != other[0] or other[3] < one[3]:
        return 0
    for _ in range(other[3] - one[3]):
        later = {}
        for state, many in table.items():
            for behind in steps(state, s):
                later[behind] = later.get(behind, 0) + many
        table = later
    return sum(many for (letters, upcoming), many in table.items() if (len(letters), upcoming) == (other[1], other[2]))


def abstract_rows(one, other):
    """What can come of one sight at the marks between: rows of (old there, old changed, old gone unchanged, new, peaks)."""
    # Letters of then: unchanged and there, changed and there, gone unchanged, gone changed; new ones; least, most ever.
    table = {(one[1], 0, 0, 0, 0, one[2], one[1], one[1])}
    for _ in range(other[3] - one[3]):
        later = set()
        for a, b, c, d, new, upcoming, low, high in table:
            moves = [(a, b, c, d, new + 1, upcoming + 1)]
            if a:
                moves += [(a - 1, b, c + 1, d, new, upcoming), (a - 1, b + 1, c, d, new, upcoming)]
            if b:
                moves += [(a, b - 1, c, d + 1, new, upcoming), (a, b, c, d, new, upcoming)]
            if new:
                moves += [(a, b, c, d, new - 1, upcoming), (a, b, c, d, new, upcoming)]
            for move in moves:
                there = move[0] + move[1] + move[4]
                if move[5] <= other[2]:
                    later.add((*move, min(low, there), max(high, there)))
        table = later
    if one[0] != other[0] or other[3] < one[3]:
        return []
    return [row for row in table if (row[0] + row[1] + row[4], row[5]) == (other[1], other[2])]


def word(pairs):
    """The word for what is so of some of so many, in each row."""
    if all(many == of for many, of in pairs):
        return "all"
    if all(many == 0 for many, _ in pairs):
        return "none"
    return "some" if all(0 < many < of for many, of in pairs) else "open"


def searched_surely(one, other):
    rows = abstract_rows(one, other)
    if not rows:
        return None
    still = [(row[0] + row[1], one[1]) for row in rows]
    unchanged = [(row[0] + row[2], one[1]) for row in rows]
    new = [(row[4], other[1]) for row in rows]
    return tuple(map(word, (still, unchanged, new)))


class Between(unittest.TestCase):

    def test_against_a_search(self):
        seen = set()
        for one in sights(4, 6):
            for other in sights(5, 10):
                rows = abstract_rows(one, other) if other[3] - one[3] <= 6 else None
                if rows is None:
                    continue
                found = between(one, other)
                self.assertEqual(found is None, not rows, (one, other))
                self.assertEqual(surely(one, other), searched_surely(one, other), (one, other))
                self.assertEqual(most_at_once(one, other), max((row[7] for row in rows), default=None))
                self.assertEqual(fewest_at_once(one, other), min((row[6] for row in rows), default=None))
                if found:
                    came, went, changed = found
                    self.assertEqual((came, one[1] + came - went), (other[2] - one[2], other[1]))
                    self.assertEqual(came + went + changed, other[3] - one[3])
                    seen.add(surely(one, other))
        self.assertEqual([{row[at] for row in seen} for at in range(3)], [set(WORDS)] * 3)

    def test_value_by_value(self):
        told = {
            ((1, 0, 1, 0), (1, 0, 1, 0)): (0, 0, 0), ((1, 0, 1, 0), (1, 1, 2, 1)): (1, 0, 0),
            ((1, 0, 1, 0), (1, 0, 2, 2)): (1, 1, 0), ((1, 0, 1, 0), (1, 0, 2, 3)): (1, 1, 1),
            ((1, 0, 2, 2), (1, 0, 2, 3)): None, ((1, 0, 2, 2), (1, 0, 3, 5)): (1, 1, 1),
            ((1, 2, 3, 2), (1, 0, 3, 9)): (0, 2, 5), ((1, 2, 3, 2), (1, 0, 3, 4)): (0, 2, 0),
            ((1, 1, 3, 3), (1, 2, 3, 9)): None, ((1, 2, 3, 2), (2, 2, 3, 2)): None, ((1, 2, 3, 3), (1, 2, 3, 2)): None,
            ((1, 1, 2, 1), (1, 1, 3, 3)): (1, 1, 0), ((1, 1, 3, 3), (1, 1, 2, 9)): None,
            ((5, 10 ** 29, 10 ** 29 + 1, 10 ** 29), (5, 10 ** 29 + 3, 10 ** 29 + 4, 10 ** 29 + 7)): (3, 0, 4),
        }
        for (one, other), numbers in told.items():
            self.assertEqual(between(one, other), numbers)

    def test_of_a_history(self):
        chance = random.Random(100)
        for _ in range(100):
            folder, rows, counts = Folder(3), [], [0, 0, 0]
            for _ in range(15):
                numbers = [letter[0] for letter in folder.letters()]
                which = chance.choice((0, 1, 2)) if numbers else 0
                if which == 0:
                    folder = folder.appended(0, ())
                elif which == 1:
                    folder = folder.removed((chance.choice(numbers),))
                else:
                    folder = folder.set_to((chance.choice(numbers),), ("a",) if folder.mark() % 2 else ("b", str(chance.choice("xyz"))))
                    if rows and rows[-1][0][3] == folder.mark():
                        continue
                counts[which] += 1
                rows.append(((3, len(folder.letters()), folder.next_number(), folder.mark()), tuple(counts)))
            (one, ahead), (other, behind) = sorted(chance.choices(rows, k=2), key=lambda row: row[0][3])
            self.assertEqual(between(one, other), tuple(late - early for early, late in zip(ahead, behind)))

    def test_adds_up(self):
        rows = sights(4, 7)
        for one, other, third in itertools.product(rows[::2], rows[::3], rows):
            first, second, both = between(one, other), between(other, third), between(one, third)
            if first and second:
                self.assertEqual(both, tuple(map(sum, zip(first, second))))


class Ways(unittest.TestCase):

    def test_against_all_rows(self):
        for one in sights(3, 3):
            for other in sights(4, 6):
                if other[3] - one[3] <= 4:
                    for s in (0, 1):
                        self.assertEqual(ways(one, other, s), len(searched_rows(one, other, s)), (one, other, s))

    def test_against_a_search(self):
        for one in sights(3, 4):
            for other in sights(5, 8):
                if other[3] - one[3] <= 4:
                    for s in (0, 1, 2):
                        self.assertEqual(ways(one, other, s), searched_ways(one, other, s), (one, other, s))

    def test_value_by_value(self):
        self.assertEqual([ways((1, 1, 2, 1), (1, 1, 2, 2), s) for s in range(7)], [0, 1, 3, 7, 15, 31, 63])
        self.assertEqual([ways((1, 0, 1, 0), (1, 1, 2, 1), s) for s in range(7)], [1, 2, 4, 8, 16, 32, 64])
        self.assertEqual([ways((1, 3, 4, 3), (1, 2, 4, 4), s) for s in range(3)], [3, 3, 3])
        self.assertEqual([ways((1, 3, 4, 3), (1, 0, 4, 6), s) for s in range(3)], [6, 6, 6])
        self.assertEqual([ways((2, 2, 3, 5), (2, 2, 3, 5), s) for s in range(3)], [1, 1, 1])
        self.assertEqual(ways((1, 0, 2, 2), (1, 0, 2, 3), 6), 0)

    def test_sums_of_products(self):
        chance = random.Random(101)
        rows = sights(5, 9)
        for _ in range(150):
            one, third = sorted(chance.sample(rows, 2), key=lambda row: row[3])
            s = chance.randint(0, 3)
            for mark in range(one[3], third[3] + 1):
                middle = [row for row in sights(6, 9) if row[3] == mark]
                total = sum(ways(one, row, s) * ways(row, third, s) for row in middle)
                self.assertEqual(total, ways(one, third, s))

    def test_sixty_marks_and_sixty_one(self):
        one = (1, 1, 2, 1)
        self.assertEqual(ways(one, (1, 1, 2, 61), 1), 1)
        self.assertEqual(raised(ways, one, (1, 1, 2, 62), 1), ("TooLarge", 60))
        self.assertGreater(ways(one, (1, 20, 25, 61), 6), 10 ** 60)
        # What no history leads to is 0, however far apart the marks are.
        self.assertEqual(ways(one, (2, 1, 2, 62), 1), 0)
        self.assertEqual(ways((1, 0, 2, 2), (1, 0, 2, 99), 1), 0)
        self.assertEqual(raised(ways, one, (1, 1, 2, 10 ** 30 - 1), 0), ("TooLarge", 60))

    def test_many_letters(self):
        count = 10 ** 29
        one = (1, count, count + 1, count)
        self.assertEqual(ways(one, (1, count - 2, count + 1, count + 2), 0), count * (count - 1))
        self.assertEqual(ways(one, (1, count - 60, count + 1, count + 60), 6) % 7, self.product(count, 60) % 7)

    def product(self, count, many):
        total = 1
        for at in range(many):
            total *= count - at
        return total


class AtOnce(unittest.TestCase):

    def test_value_by_value(self):
        told = {
            ((1, 2, 3, 2), (1, 2, 3, 2)): (2, 2), ((1, 2, 3, 2), (1, 2, 4, 4)): (3, 1), ((1, 0, 1, 0), (1, 0, 6, 10)): (5, 0),
            ((1, 5, 6, 5), (1, 1, 6, 9)): (5, 1), ((1, 1, 6, 9), (1, 2, 9, 14)): (4, 0), ((1, 1, 2, 1), (2, 1, 2, 1)): (None, None),
        }
        for (one, other), (most, fewest) in told.items():
            self.assertEqual((most_at_once(one, other), fewest_at_once(one, other)), (most, fewest))


class Surely(unittest.TestCase):

    def test_each_word(self):
        two = (1, 2, 3, 2)
        told = {
            (two, two): ("all", "all", "none"),
            (two, (1, 2, 3, 3)): ("all", "some", "none"), (two, (1, 2, 3, 4)): ("all", "open", "none"),
            (two, (1, 1, 3, 3)): ("some", "all", "none"), (two, (1, 0, 3, 4)): ("none", "all", "all"),
            (two, (1, 3, 4, 3)): ("all", "all", "some"), (two, (1, 2, 4, 4)): ("open", "all", "open"),
            (two, (1, 2, 4, 5)): ("open", "open", "open"), (two, (2, 2, 3, 2)): None,
            ((1, 1, 2, 1), (1, 1, 2, 2)): ("all", "none", "none"), ((1, 1, 2, 1), (1, 0, 2, 3)): ("none", "none", "all"),
            ((1, 0, 1, 0), (1, 1, 2, 1)): ("all", "all", "all"), ((1, 0, 1, 0), (1, 0, 1, 0)): ("all", "all", "all"),
        }
        for (one, other), words in told.items():
            self.assertEqual(surely(one, other), words, (one, other))


class Errors(unittest.TestCase):

    def test_sights_that_no_history_leads_to(self):
        fine = (1, 1, 2, 1)
        wrong = [
            (0, 1, 2, 1), (1, -1, 2, 9), (1, 2, 2, 9), (1, 1, 1, 1), (1, 0, 0, 0), (1, 0, 1, 1), (1, 0, 2, 1), (1, 1, 3, 2),
            (1, 0, 1, -1), (1, 1, 2, 0), (1, 1, 2), (1, 1, 2, 1, 1), [1, 1, 2, 1], (True, 1, 2, 1), (1, True, 2, 1),
            (1, 0, True, 0), (1, 0, 1, False), ("1", 1, 2, 1), (1, None, 2, 1), (1, 1, [2], 1), (1, 1, 2, ()),
        ]
        for call in (between, most_at_once, fewest_at_once, surely, lambda one, other: ways(one, other, 1)):
            for value in wrong + objects():
                self.assertFalse(is_sight(value))
                self.assertEqual(raised(call, value, value), ("BadValue", "one"))
                self.assertEqual(raised(call, fine, value), ("BadValue", "other"))
                self.assertEqual(raised(call, value, fine), ("BadValue", "one"))

    def test_possible_sights_are_those_of_histories(self):
        found = set()
        states = {((), 1, 0)}
        for _ in range(6):
            found |= {(1, len(letters), upcoming, mark) for letters, upcoming, mark in states}
            states = {(row[0], row[1], mark + 1) for letters, upcoming, mark in states for row in steps((letters, upcoming), 1)}
        self.assertEqual(found, set(sights(6, 5)))

    def test_number_of_signs(self):
        one = (1, 1, 2, 1)
        for value in objects() + [7, -1, 10 ** 30 - 1]:
            if not (type(value) is int and 0 <= value <= 6):
                self.assertEqual(raised(ways, one, one, value), ("BadValue", "s"))
                self.assertEqual(raised(ways, one, (2, 1, 2, 99), value), ("BadValue", "s"))
                self.assertEqual(raised(ways, one, 5, value), ("BadValue", "other"))
                self.assertEqual(raised(ways, 5, one, value), ("BadValue", "one"))


if __name__ == "__main__":
    unittest.main()
