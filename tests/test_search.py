"""[11.1] to [11.6]: searches letter by letter, and keys side by side against a search through small folders."""

import copy
import itertools
import random
import unittest

from mailtide.errors import BadFolder, BadKey, BadRow, TooLarge
from mailtide.folders import Folder
from mailtide.histories import played
from mailtide.search import Kept, folder_of, is_opposite, is_within, parted, plain_key, sought
from mailtide.sets import meant
from tests.drawn import some_history
from tests.test_folders import state, three
from tests.wrong import is_sign, is_signs, is_whole, objects, raised

ALL = ("all",)


def is_set_text(value):
    if type(value) is not str:
        return False
    ends = [end for item in value.split(",") for end in (item.split(":") if item.count(":") < 2 else [""])]
    return all(end == "*" or end.isascii() and end.isdigit() and end[0] != "0" and len(end) <= 30 for end in ends)


def size_of(value):
    """(How many keys a value has, how many within one another), or None for what has not the form of a key."""
    if type(value) is not tuple or not value or type(value[0]) is not str:
        return None
    if value[0] == "all":
        return (1, 1) if len(value) == 1 else None
    if len(value) != 2:
        return None
    checks = {"sign": is_sign, "number": is_set_text, "since": lambda mark: is_whole(mark, 0)}
    if value[0] in checks:
        return (1, 1) if checks[value[0]](value[1]) else None
    if value[0] == "not":
        parts = [value[1]]
    elif value[0] in ("and", "or") and type(value[1]) is tuple and len(value[1]) <= 10:
        parts = value[1]
    else:
        return None
    sizes = [size_of(part) for part in parts]
    if None in sizes:
        return None
    return (1 + sum(size[0] for size in sizes), 1 + max((size[1] for size in sizes), default=0))


def is_key(value):
    size = size_of(value)
    return size is not None and size[0] <= 60 and size[1] <= 12


def fulfils(key, letter, numbers):
    """Whether a letter (number, signs, mark) fulfils a key, as the document words it."""
    word = key[0]
    if word == "all":
        return True
    if word == "not":
        return not fulfils(key[1], letter, numbers)
    if word in ("and", "or"):
        return {"and": all, "or": any}[word](fulfils(part, letter, numbers) for part in key[1])
    if word == "number":
        return letter[0] in meant(key[1], numbers)
    return key[1] in letter[1] if word == "sign" else letter[2] > key[1]


def found(key, letters):
    numbers = [letter[0] for letter in letters]
    return [letter[0] for letter in letters if fulfils(key, letter, numbers)]


def rows_of(folder):
    return [(number, signs, mark) for number, _, signs, mark in folder.letters()]


def some_key(chance, depth=3, names="ab", numbers=4, marks=4):
    words = ["sign", "number", "since", "all"] + ["not", "and", "or"] * 3 * (depth > 1)
    word = chance.choice(words)
    if word == "all":
        return ALL
    if word == "sign":
        return (word, chance.choice(names))
    if word == "since":
        return (word, chance.randint(0, marks))
    if word == "number":
        ends = ["*"] + [str(number) for number in range(1, numbers + 1)]
        return (word, ",".join(":".join(chance.choices(ends, k=chance.randint(1, 2))) for _ in range(chance.randint(1, 2))))
    if word == "not":
        return (word, some_key(chance, depth - 1, names, numbers, marks))
    return (word, tuple(some_key(chance, depth - 1, names, numbers, marks) for _ in range(chance.randint(0, 3))))


def searched_plain(key):
    """A key by its rules, one use at a time, at the outermost place."""
    while True:
        later = once(key)
        if later == key:
            return key
        key = later


def once(key):
    if key[0] == "not":
        inner = key[1]
        if inner[0] == "all":
            return ("or", ())
        if inner[0] == "not":
            return inner[1]
        if inner[0] in ("and", "or"):
            return ({"and": "or", "or": "and"}[inner[0]], tuple(("not", part) for part in inner[1]))
        return key
    if key[0] in ("and", "or"):
        for at, part in enumerate(key[1]):
            if once(part) != part:
                return (key[0], key[1][:at] + (once(part),) + key[1][at + 1:])
    return key


def lists_of_letters(most_number, most_mark, names):
    """All lists of one and of two letters that are there in folders, by the document's facts."""
    sets = [signs for many in range(len(names) + 1) for signs in itertools.combinations(names, many)]
    ones = [(n, signs, m) for n in range(1, most_number + 1) for signs in sets for m in range(n, most_mark + 1)]
    twos = []
    for one, other in itertools.product(ones, repeat=2):
        (n, _, m), (k, _, j) = one, other
        if n < k and m != j and not (n < m <= k and j < k + 1):
            twos.append((one, other))
    return [(one,) for one in ones] + twos


def reached(most):
    """All lists of letters (with one sign or none) of all folders behind up to so many changes."""
    folders, lists = [Folder(1)], set()
    for _ in range(most + 1):
        lists |= {tuple(rows_of(folder)) for folder in folders}
        later = {}
        for folder in folders:
            for letter in folder.letters():
                later[str(state(folder.removed((letter[0],))))] = folder.removed((letter[0],))
                changed = folder.set_to((letter[0],), () if letter[2] else ("a",))
                later[str(state(changed))] = changed
            for signs in ((), ("a",)):
                later[str(state(folder.appended(0, signs)))] = folder.appended(0, signs)
        # What went does not matter to the letters.
        folders = list({str(rows_of(folder)) + str(folder.next_number()): folder for folder in later.values()}.values())
    return lists


class Sought(unittest.TestCase):

    def test_each_kind(self):
        folder = Folder(1).appended(0, ("a",)).appended(0, ()).appended(0, ("a", "b")).appended(0, ()).removed((2,))
        folder = folder.added((1,), "c")
        told = {
            ALL: [1, 3, 4], ("sign", "a"): [1, 3], ("sign", "d"): [], ("number", "2:3"): [3], ("number", "*"): [4],
            ("number", "9:*"): [4], ("number", "3,1"): [1, 3], ("since", 3): [1, 4], ("since", 6): [], ("since", 0): [1, 3, 4],
            ("not", ("sign", "a")): [4], ("and", ()): [1, 3, 4], ("or", ()): [], ("not", ("or", ())): [1, 3, 4],
            ("and", (("sign", "a"), ("since", 3))): [1], ("or", (("sign", "b"), ("number", "*"))): [3, 4],
        }
        for key, numbers in told.items():
            self.assertEqual(sought(key, folder), numbers, key)
            self.assertEqual(sought(key, Folder(1)), [])

    def test_letter_by_letter(self):
        chance = random.Random(110)
        for _ in range(400):
            folder = played(Folder(1), some_history(chance, 1, chance.randint(0, 14), names="ab"))
            key = some_key(chance, chance.randint(1, 5), numbers=9, marks=14)
            self.assertEqual(sought(key, folder), found(key, rows_of(folder)))

    def test_more_than_two_hundred_letters(self):
        folder = Folder(1)
        for _ in range(202):
            folder = folder.appended(0, ())
        self.assertEqual(sought(("number", "201:*"), folder), [201, 202])
        self.assertEqual(sought(("not", ("number", "1:199")), folder), [200, 201, 202])

    def test_long_numbers(self):
        folder = three()
        self.assertEqual(sought(("number", f"{10 ** 30 - 1}:*"), folder), [3])
        self.assertEqual(sought(("number", f"{10 ** 30 - 1}:2"), folder), [2, 3])
        self.assertEqual(sought(("since", 10 ** 30 - 1), folder), [])

    def test_sizes(self):
        sixty = ("and", (("and", (ALL,) * 10),) * 5 + (("or", (ALL, ALL, ALL)),))
        self.assertEqual(size_of(sixty), (60, 3))
        self.assertEqual(sought(sixty, three()), [1, 2, 3])
        more = ("and", sixty[1][:5] + (("or", (ALL,) * 4),))
        self.assertEqual(raised(sought, more, three()), ("BadKey", more))
        more = ("not", sixty)
        self.assertEqual(raised(sought, more, three()), ("BadKey", more))
        deep = ALL
        for _ in range(11):
            deep = ("not", deep)
        self.assertEqual(sought(deep, three()), [])
        for more in (("not", deep), ("and", (ALL, deep)), ("or", (deep,))):
            self.assertEqual(raised(sought, more, three()), ("BadKey", more))
        for word, numbers in (("and", [1, 2, 3]), ("or", [1, 2, 3])):
            self.assertEqual(sought((word, (ALL,) * 10), three()), numbers)
            self.assertEqual(raised(sought, (word, (ALL,) * 11), three()), ("BadKey", (word, (ALL,) * 11)))

    def test_keys_that_stand_in_one_another_many_times(self):
        key = ALL
        for _ in range(11):
            key = ("and", (key,) * 10)
        self.assertEqual(raised(sought, key, three()), ("BadKey", key))
        for _ in range(2000):
            key = ("not", key)
        with self.assertRaises(BadKey) as caught:
            sought(key, three())
        self.assertIs(caught.exception.value, key)


class KeptResults(unittest.TestCase):

    def test_follow(self):
        chance = random.Random(111)
        for _ in range(100):
            key = some_key(chance, 3, numbers=9, marks=14)
            folder = Folder(1)
            kept = Kept(key, folder)
            for _ in range(6):
                self.assertEqual(kept.numbers(), found(key, rows_of(folder)))
                later = played(Folder(1), some_history(chance, 1, chance.randint(0, 12), names="ab"))
                if chance.random() < 0.6:
                    later = played(folder, [deed for deed in some_history(chance, 1, 2, False, "ab")])
                old, new = set(sought(key, folder)), set(sought(key, later))
                self.assertEqual(kept.follow(later), (tuple(sorted(old - new)), tuple(sorted(new - old))))
                folder = later

    def test_value_by_value(self):
        kept = Kept(("not", ("number", "*")), three())
        self.assertEqual(kept.numbers(), [1, 2])
        self.assertEqual(kept.follow(three().appended(0, ()).removed((1,))), ((1,), (3,)))
        self.assertEqual(kept.numbers(), [2, 3])
        self.assertEqual(kept.follow(Folder(9)), ((2, 3), ()))
        self.assertEqual(kept.follow(Folder(9)), ((), ()))
        self.assertEqual(kept.follow(three()), ((), (1, 2)))

    def test_errors_and_lists(self):
        kept = Kept(ALL, three())
        kept.numbers().append(9)
        self.assertEqual(kept.numbers(), [1, 2, 3])
        for value in objects():
            if not isinstance(value, Folder):
                self.assertEqual(raised(kept.follow, value), ("BadFolder", value))
                self.assertEqual(raised(Kept, ALL, value), ("BadFolder", value))
                self.assertEqual(raised(sought, ALL, value), ("BadFolder", value))
            self.assertEqual(raised(Kept, value, 5), ("BadKey", value))
        self.assertEqual(kept.numbers(), [1, 2, 3])


class Plain(unittest.TestCase):

    def test_value_by_value(self):
        sign, number, since = ("sign", "a"), ("number", "1"), ("since", 1)
        told = [
            (("not", ALL), ("or", ())), (("not", ("not", ALL)), ALL), (("not", ("not", ("not", ALL))), ("or", ())),
            (("not", ("and", (sign, number))), ("or", (("not", sign), ("not", number)))),
            (("not", ("or", (since, ("not", sign)))), ("and", (("not", since), sign))),
            (("not", ("and", ())), ("or", ())), (("not", ("or", ())), ("and", ())), (("not", sign), ("not", sign)),
            (("and", (("not", ("not", sign)), ("or", (("not", ALL),)))), ("and", (sign, ("or", (("or", ()),))))),
        ]
        for key, plain in told:
            self.assertEqual(plain_key(key), plain)

    def test_by_its_rules(self):
        chance = random.Random(112)
        for _ in range(500):
            key = some_key(chance, 6)
            if is_key(key):
                plain = plain_key(key)
                self.assertEqual(plain, searched_plain(key))
                self.assertEqual(plain_key(plain) if is_key(plain) else plain, plain)

    def test_it_may_be_larger_than_a_key(self):
        key = ("not", ("and", (("and", (("sign", "a"),) * 10),) * 5))
        self.assertEqual(size_of(plain_key(key))[0], 106)


class SideBySide(unittest.TestCase):

    def check(self, key, other, lists):
        """Parted, is_opposite and is_within, against what is found in all these lists of letters."""
        both = [(letters, found(key, letters), found(other, letters)) for letters in lists]
        apart = [letters for letters, one, two in both if one != two]
        least = min(apart, key=lambda row: (len(row), sum(len(letter[1]) for letter in row), row), default=None)
        self.assertEqual(parted(key, other), least, (key, other))
        self.assertIs(is_within(key, other), all(set(one) <= set(two) for _, one, two in both))
        opposite = all(sorted(one + two) == [letter[0] for letter in letters] for letters, one, two in both)
        self.assertIs(is_opposite(key, other), opposite)

    def test_against_all_small_folders(self):
        chance = random.Random(113)
        lists = lists_of_letters(5, 8, "ab")
        small = lists_of_letters(4, 6, "ab")
        self.assertGreater(len(lists), 4000)
        seen = {0: 0, 1: 0, 2: 0}
        for turn in range(60):
            numbers, marks = (3, 4) if turn % 10 == 0 else (2, 2)
            key, other = [some_key(chance, 4, "ab", numbers, marks) for _ in range(2)]
            if chance.random() < 0.3:
                other = ("or", (other, key))
            elif chance.random() < 0.3:
                other = ("not", key) if chance.random() < 0.5 else plain_key(("not", ("not", key)))
            self.check(key, other, lists if turn % 10 == 0 else small)
            seen[len(parted(key, other) or ())] += 1
        self.assertTrue(all(seen.values()), seen)

    def test_pairs_of_plain_keys(self):
        lists = lists_of_letters(4, 6, "a")
        keys = [ALL, ("or", ()), ("sign", "a"), ("since", 0), ("since", 1), ("since", 2), ("number", "*"), ("number", "1"),
                ("number", "2:*"), ("number", "2"), ("number", "1:2,*"), ("not", ("number", "*")), ("and", (("sign", "a"), ("since", 2)))]
        for key, other in itertools.product(keys, repeat=2):
            self.check(key, other, lists)
            self.check(("not", key), other, lists)

    def test_parted_means_a_folder(self):
        chance = random.Random(114)
        for _ in range(300):
            key, other = [some_key(chance, 4, "abc", 9, 9) for _ in range(2)]
            letters = parted(key, other)
            if letters is not None:
                folder = folder_of(letters)
                self.assertEqual(tuple(rows_of(folder)), letters)
                self.assertNotEqual(sought(key, folder), sought(other, folder))
            self.assertEqual(letters is None, is_within(key, other) and is_within(other, key))
            self.assertEqual(is_opposite(key, other), parted(key, ("not", other)) is None)

    def test_named_in_the_document(self):
        self.assertEqual(parted(("number", "3:*"), ("not", ("number", "1:2"))), ((1, (), 1),))
        self.assertEqual(parted(("since", 3), ("and", (("since", 3), ("not", ("number", "7"))))), ((7, (), 7),))
        self.assertIsNone(parted(("and", (("number", "5"), ("not", ("since", 4)))), ("or", ())))
        self.assertEqual(parted(("and", (("number", "5"), ("not", ("since", 5)))), ("or", ())), ((5, (), 5),))

    def test_two_letters_and_their_marks(self):
        # The lesser letter must have just the mark that the greater one would have.
        key = ("and", (("number", "3:9"), ("not", ("number", "*")), ("since", 3), ("not", ("since", 4))))
        self.assertEqual(parted(key, ("or", ())), ((3, (), 4), (4, (), 5)))
        self.assertEqual(parted(("and", (key[1][0], key[1][1])), ("or", ())), ((3, (), 3), (4, (), 4)))
        self.assertEqual(parted(("and", key[1][:2] + (("since", 7),)), ("or", ())), ((3, (), 8), (4, (), 4)))
        self.assertEqual(parted(("and", key[1][:2] + (("sign", "b"),)), ("or", ())), ((3, ("b",), 3), (4, (), 4)))

    def test_fewest_signs_ahead_of_least_numbers(self):
        key = ("or", (("and", (("number", "1"), ("sign", "a"))), ("number", "8")))
        self.assertEqual(parted(key, ("or", ())), ((8, (), 8),))
        key = ("or", (("and", (("sign", "b"), ("sign", "c"))), ("and", (("sign", "d"), ("since", 9)))))
        self.assertEqual(parted(key, ("or", ())), ((1, ("d",), 10),))
        key = ("or", (("sign", "c"), ("sign", "b"), ("and", (("sign", "a"), ("since", 1)))))
        self.assertEqual(parted(key, ("or", ())), ((1, ("a",), 2),))

    def test_long_numbers(self):
        last = 10 ** 30 - 1
        self.assertEqual(parted(("number", str(last)), ("or", ())), ((last, (), last),))
        self.assertEqual(parted(("number", f"1:{last}"), ALL), ((last + 1, (), last + 1),))
        self.assertEqual(parted(("since", last), ("or", ())), ((1, (), last + 1),))
        self.assertIsNone(parted(("number", f"{last}:*"), ("or", (("number", f"*:{last}"), ("number", "*")))))
        self.assertTrue(is_within(("number", "*"), ("number", f"{last}:*")))
        self.assertFalse(is_within(("number", f"{last}:*"), ("number", "*")))
        self.assertTrue(is_opposite(("since", last), ("not", ("since", last))))

    def test_limits(self):
        signs = [("sign", name) for name in "abcdef"]
        numbers = [("number", str(number)) for number in range(1, 14)]
        marks = [("since", mark) for mark in range(13)]
        for call in (parted, is_opposite, is_within):
            call(("and", tuple(signs[:3])), ("and", tuple(signs[2:5])))
            self.assertEqual(raised(call, ("and", tuple(signs[:3])), ("and", tuple(signs[3:]))), ("TooLarge", 5))
            for rows in (numbers, marks):
                call(("and", tuple(rows[:7])), ("or", tuple(rows[5:12])))
                self.assertEqual(raised(call, ("and", tuple(rows[:7])), ("or", tuple(rows[6:]))), ("TooLarge", 12))
                # Signs go ahead.
                both = ("and", (("or", tuple(rows[:7])), ("or", tuple(rows[6:])), ("and", tuple(signs))))
                self.assertEqual(raised(call, both, ALL), ("TooLarge", 5))
            call(("and", (("or", tuple(numbers[:6])), ("or", tuple(numbers[6:12])))), ("or", (("or", tuple(marks[:6])), ("or", tuple(marks[6:12])))))
            self.assertEqual(raised(call, ("number", ",".join(map(str, range(1, 14)))), ALL), ("TooLarge", 12))
            call(("number", "1:2,2:3,3,*:2,1"), ("number", "*,4:12,5:6,7:8,9:10,11"))
            self.assertEqual(raised(call, ("number", "1:2,3:4,5:6,7"), ("number", "8:9,10:11,12:13")), ("TooLarge", 12))

    def test_the_largest_keys(self):
        atoms = [("sign", name) for name in "abcde"] + [("number", str(number)) for number in range(1, 13)]
        atoms += [("since", mark) for mark in range(0, 36, 3)]
        chance = random.Random(115)
        for _ in range(3):
            keys = []
            for _ in range(2):
                rows = [chance.choice(atoms) for _ in range(50)]
                rows = [("not", row) if at % 8 == 0 else row for at, row in enumerate(rows)]
                groups = [(chance.choice(("and", "or")), tuple(rows[at:at + 5])) for at in range(0, 40, 5)]
                keys.append(("or", tuple(groups)))
            for call in (parted, is_opposite, is_within):
                call(*keys)


class FolderOf(unittest.TestCase):

    def test_against_all_rows_of_changes(self):
        lists = reached(7)
        for most, signs in ((4, ((), ("a",))),):
            ones = [(n, s, m) for n in range(1, most + 1) for s in signs for m in range(8)]
            twos = [(one, other) for one in ones for other in ones if one[0] < other[0]]
            for letters in [()] + [(one,) for one in ones] + twos:
                folder = folder_of(letters)
                if folder is not None:
                    self.assertEqual((tuple(rows_of(folder)), folder.age()), (letters, 1))
                    self.assertEqual({letter[1] for letter in folder.letters()} - {0}, set())
                # What is to be removed behind needs more changes than were looked at.
                top = letters[-1][0] if letters else 0
                if max([letter[2] for letter in letters], default=0) + top - len(letters) <= 7:
                    self.assertEqual(folder is not None, letters in lists, letters)
                elif folder is None:
                    self.assertNotIn(letters, lists)

    def test_it_is_what_a_history_leads_to(self):
        for letters in (((3, ("b",), 7), (5, (), 6)), ((2, (), 9),), ((1, ("a",), 60), (60, ("z",), 59)), ()):
            if letters and letters[-1][0] == 60:
                # Letter 60 comes with the mark 60 at least.
                self.assertIsNone(folder_of(letters))
                continue
            folder = folder_of(letters)
            self.assertEqual(tuple(rows_of(folder)), letters)
            self.assertEqual(folder.mark(), 2 * (folder.next_number() - 1) - len(letters) + self.changes(folder))
            self.assertEqual([number for _, number in folder.gone()], [number for number in range(1, folder.next_number()) if number not in dict((row[0], 1) for row in letters)])
        self.assertEqual(folder_of(()), Folder(1))

    def changes(self, folder):
        return folder.mark() - (folder.next_number() - 1) - len(folder.gone())

    def test_by_the_facts(self):
        for n, m, k, j in itertools.product((1, 2, 5), (1, 2, 3, 5, 6, 7, 9, 60), (2, 6, 7, 60), (2, 6, 7, 8, 9, 59, 60)):
            if n < k:
                can_be = m >= n and j >= k and m != j and not (n < m <= k and j < k + 1)
                for one, other in itertools.product(((), ("a",), ("a", "b", "c")), repeat=2):
                    letters = ((n, one, m), (k, other, j))
                    folder = folder_of(letters)
                    self.assertEqual(folder is not None, can_be, letters)
                    if folder:
                        self.assertEqual(tuple(rows_of(folder)), letters)
        for n, m in itertools.product((1, 2, 30, 60), (0, 1, 2, 29, 30, 60)):
            for signs in ((), ("a",), ("a", "b")):
                folder = folder_of(((n, signs, m),))
                self.assertEqual(folder and tuple(rows_of(folder)), ((n, signs, m),) if m >= n else None)

    def test_errors(self):
        one, two = (1, (), 1), (2, (), 2)
        for value in objects():
            if type(value) is not tuple:
                self.assertEqual(raised(folder_of, value), ("BadRow", -1))
            self.assertEqual(raised(folder_of, (value,)), ("BadRow", 0))
            self.assertEqual(raised(folder_of, (one, value)), ("BadRow", 1))
            self.assertEqual(raised(folder_of, (one, two, value)), ("BadRow", 2))
            for at, check in ((0, lambda told: is_whole(told, 1)), (1, is_signs), (2, lambda told: is_whole(told, 0))):
                if not check(value):
                    self.assertEqual(raised(folder_of, (one[:at] + (value,) + one[at + 1:],)), ("BadRow", 0))
        self.assertEqual(raised(folder_of, (one, two, (3, (), 3))), ("BadRow", 2))
        self.assertEqual(raised(folder_of, (two, one)), ("BadRow", 1))
        self.assertEqual(raised(folder_of, (two, two)), ("BadRow", 1))
        self.assertEqual(raised(folder_of, (one, two, 5)), ("BadRow", 2))
        self.assertEqual(raised(folder_of, [one]), ("BadRow", -1))
        self.assertEqual(raised(folder_of, (list(one),)), ("BadRow", 0))
        self.assertEqual(raised(folder_of, ((1, (), 1, 1),)), ("BadRow", 0))
        self.assertEqual(raised(folder_of, ((61, (), 1),)), ("TooLarge", 60))
        self.assertEqual(raised(folder_of, ((1, (), 61),)), ("TooLarge", 60))
        self.assertEqual(raised(folder_of, (one, (61, (), 1))), ("TooLarge", 60))
        self.assertEqual(raised(folder_of, (one, (2, (), 10 ** 29))), ("TooLarge", 60))
        self.assertEqual(raised(folder_of, ((61, (), 1), 5)), ("BadRow", 1))
        self.assertIsNone(folder_of(((1, (), 0),)))


class Errors(unittest.TestCase):

    def test_the_whole_value_that_was_passed(self):
        wrong = [
            ("all", 1), ("sign", "A"), ("sign",), ("sign", ("a",)), ("number", "0"), ("number", 5), ("number", ""),
            ("number", "1:2:3"), ("number", "1" * 31), ("since", -1), ("since", True), ("since", "1"), ("not",), ("not", 5),
            ("not", ALL, ALL), ("and", [ALL]), ("and", ALL), ("or", (ALL, 5)), ("or", (ALL, [])), ("xor", ()), ["all"], "all",
            ("and", (("or", (("not", ("number", "1,")),)),)), ("and",), (1, 2), ([], 1), ((), 1),
        ]
        folder = three()
        for value in wrong + objects():
            self.assertFalse(is_key(value))
            for call in (
                lambda key: sought(key, 5), lambda key: Kept(key, 5), plain_key, lambda key: parted(key, 5),
                lambda key: parted(ALL, key), lambda key: is_opposite(key, 5), lambda key: is_opposite(ALL, key),
                lambda key: is_within(key, 5), lambda key: is_within(ALL, key),
            ):
                with self.assertRaises(BadKey) as caught:
                    call(value)
                self.assertIs(caught.exception.value, value)
                nested = ("and", (ALL, ("not", value)))
                with self.assertRaises(BadKey) as caught:
                    call(nested)
                self.assertIs(caught.exception.value, nested)
        self.assertEqual(raised(sought, ALL, 5), ("BadFolder", 5))
        self.assertEqual(raised(Kept, ALL, None), ("BadFolder", None))
        six = ("and", tuple(("sign", name) for name in "abcdef"))
        self.assertEqual(raised(parted, six, 5), ("BadKey", 5))
        self.assertEqual(sought(ALL, folder), [1, 2, 3])

    def test_arguments_stay(self):
        folder = three()
        ahead = state(folder)
        kept = Kept(("sign", "a"), folder)
        kept.follow(folder.appended(0, ("a",)))
        self.assertEqual(state(folder), copy.deepcopy(ahead))
        one = folder_of(((1, (), 1),))
        self.assertEqual(one, folder_of(((1, (), 1),)))


if __name__ == "__main__":
    unittest.main()
