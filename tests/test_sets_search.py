"""[1.2] to [1.6] against searches through all texts of few signs."""

import re
import unittest
from itertools import combinations, product

from mailtide.sets import count_shortest, meant, parting, plain_set, shortest

END = r"(?:\*|[1-9][0-9]*)"
ITEM = f"{END}(?::{END})?"
TEXT = re.compile(f"{ITEM}(?:,{ITEM})*")


def texts_of(signs):
    """All set texts of so many signs, found among all strings of the signs that they have."""
    strings = map("".join, product("*,0123456789:", repeat=signs))
    return [text for text in strings if TEXT.fullmatch(text)]


def plainly_meant(text, there):
    """What a text means, as the document words it."""
    found = set()
    for item in text.split(",") if there else []:
        ends = [there[-1] if end == "*" else int(end) for end in item.split(":")]
        found |= {number for number in there if min(ends) <= number <= max(ends)}
    return sorted(found)


def items_of(signs, figures):
    """All items of so many signs with ends of at most so many figures."""
    ends = {k: [str(n) for n in range(10 ** (k - 1), 10 ** k)] for k in range(1, figures + 1)}
    ends[1].append("*")
    items = list(ends.get(signs, []))
    for many in range(1, signs - 1):
        items.extend(f"{one}:{two}" for one in ends.get(many, []) for two in ends.get(signs - 1 - many, []))
    return items


def searched(there, most, figures, is_plain=False):
    """For each set of numbers that texts of at most so many signs mean: (signs, how many texts, the first one)."""
    items, texts, best = {}, {}, {}
    for signs in range(1, most + 1):
        items[signs] = {}
        for item in items_of(signs, figures):
            if not (is_plain and "*" in item):
                put(items[signs], frozenset(plainly_meant(item, there)), 1, item)
        texts[signs] = dict(items[signs])
        for lead in range(1, signs - 1):
            for means, (many, item) in items[lead].items():
                for others, (rest, tail) in texts[signs - 1 - lead].items():
                    put(texts[signs], means | others, many * rest, item + "," + tail)
        for means, (many, text) in texts[signs].items():
            best.setdefault(means, (signs, many, text))
    return best


def put(table, means, many, text):
    """Count so many texts more, of which this is the first one."""
    before, first = table.get(means, (0, text))
    table[means] = (before + many, min(first, text))


class AllStrings(unittest.TestCase):

    def test_few_signs(self):
        texts = [text for signs in range(1, 5) for text in texts_of(signs)]
        for there in ((), (1,), (5,), (12,), (2, 3), (8, 9, 10), (1, 9, 11, 12), (3, 5, 6, 99, 100)):
            found = {}
            for text in texts:
                means = tuple(plainly_meant(text, there))
                found.setdefault(means, []).append(text)
                self.assertEqual(tuple(meant(text, there)), means, (text, there))
            for some in found:
                least = [text for text in found[some] if len(text) == len(found[some][0])]
                self.assertEqual(shortest(some, there), min(least), (some, there))
                self.assertEqual(count_shortest(some, there), len(least), (some, there))

    def test_all_other_strings_are_no_set_texts(self):
        for signs in range(0, 4):
            for letters in product("*,01:9a ", repeat=signs):
                text = "".join(letters)
                try:
                    meant(text, (1,))
                    is_text = True
                except ValueError:
                    is_text = False
                self.assertEqual(is_text, TEXT.fullmatch(text) is not None, text)


class AllItems(unittest.TestCase):

    def test_longer_texts(self):
        rows = [
            (1, 2, 3, 4, 5, 6), (4, 5, 7, 9, 10, 12), (9, 10, 11, 12, 13), (1, 10, 11, 20, 21), (8, 10, 12, 14, 15),
            (2, 10, 12, 15, 19, 25), (5, 20, 50, 55, 60, 61),
        ]
        for there in rows:
            best = searched(there, 9, 2)
            for size in range(0, len(there) + 1):
                for some in combinations(there, size):
                    text = shortest(some, there)
                    self.assertEqual(meant(text, there), list(some))
                    if frozenset(some) in best:
                        signs, number, first = best[frozenset(some)]
                        self.assertEqual((text, count_shortest(some, there)), (first, number), (some, there))
                        self.assertEqual(len(text), signs)
                    else:
                        self.assertGreater(len(text), 9)

    def test_plain_sets(self):
        # Every number up to 14 is there, so that a text means just what it means whatever is there.
        best = searched(tuple(range(1, 15)), 8, 2, True)
        tried = 0
        for means, (_, _, first) in best.items():
            if means and max(means) < 14:
                self.assertEqual(plain_set(sorted(means)), first)
                tried += 1
        self.assertGreater(tried, 500)


class AllPairs(unittest.TestCase):

    def test_parting(self):
        texts = [text for signs in (1, 3) for text in texts_of(signs)]
        texts = [text for text in texts if max(map(int, re.findall("[0-9]+", text)), default=1) <= 4]
        texts += ["1:3,*", "2,*:3", "1:2,3:*", "*:3,1", "1,2,4", "4:1,*", "2:4,1,*"]
        rows = [row for size in (1, 2) for row in combinations(range(1, 8), size)]
        longer = [(1, 2, 3), (2, 4, 5), (1, 3, 4, 6), (1, 2, 3, 4, 5), (2, 3, 7, 99)]
        told = {text: [plainly_meant(text, row) for row in rows] for text in texts}
        sizes = set()
        for one in texts:
            for other in texts:
                parts = [row for row, mine, its in zip(rows, told[one], told[other]) if mine != its]
                self.assertEqual(parting(one, other), parts[0] if parts else None, (one, other))
                sizes.add(len(parts[0]) if parts else 0)
                if not parts:
                    for row in longer:
                        self.assertEqual(plainly_meant(one, row), plainly_meant(other, row))
        self.assertEqual(sizes, {0, 1, 2})


if __name__ == "__main__":
    unittest.main()
