"""[9.1] to [9.6]: probes and papers against searches through all of them, and ways to be in step."""

import copy
import itertools
import random
import unittest

from mailtide.costs import (
    asked_rounds, best_paper, cheapest, curve, least_probes, least_rounds, way_cost, way_lines, worst_case,
)
from mailtide.errors import BadFolder, BadRow, BadValue
from mailtide.folders import Folder
from mailtide.histories import played
from mailtide.sets import meant, plain_set, shortest
from tests.drawn import some_history
from tests.test_folders import state, three
from tests.wrong import is_whole, objects, raised

WAYS = ["all", "since", "sieve", "probe"]


def patterns(many, there):
    return [row for row in itertools.product((False, True), repeat=many) if sum(row) == there]


def walk(paper, pattern):
    """The rounds that a paper makes of a pattern, as the document words it; KeyError where a cut is lacking."""
    rounds, stretches = [], [(0, pattern)]
    while True:
        stretches = [(at, row) for at, row in stretches if 0 < sum(row) < len(row)]
        if not stretches:
            return rounds
        asked, later = [], []
        for at, row in stretches:
            cut = paper[len(row), sum(row)]
            if type(cut) is not int or not 1 <= cut < len(row):
                raise KeyError(cut)
            asked.append((at + cut, sum(pattern[:at + cut])))
            later += [(at, row[:cut]), (at + cut, row[cut:])]
        rounds.append(asked)
        stretches = later


def searched_worst(paper, many, there):
    try:
        rows = [walk(paper, pattern) for pattern in patterns(many, there)]
    except KeyError:
        return None
    return (max(sum(map(len, rounds)) for rounds in rows), max(map(len, rows)))


def stretches_of(many, there):
    """All stretches that can come of one, which are not clear, longest first."""
    rows = [(length, count) for length in range(many, 1, -1) for count in range(1, length)]
    return [(length, count) for length, count in rows if count <= there and length - count <= many - there]


def papers(many, there):
    """All papers for a stretch, with entries also for stretches that can not come."""
    keys = stretches_of(many, there)
    for cuts in itertools.product(*[range(1, length) for length, _ in keys]):
        yield dict(zip(keys, cuts))


def trees(many, there, rounds, known):
    """The costs (probes) of all strategies in which like stretches may be cut otherwise; the least one, or None."""
    if there in (0, many):
        return 0
    if rounds == 0:
        return None
    if (many, there, rounds) not in known:
        found = []
        for cut in range(1, many):
            rows = []
            for left in range(max(0, there - many + cut), min(cut, there) + 1):
                rows.append([trees(cut, left, rounds - 1, known), trees(many - cut, there - left, rounds - 1, known)])
            if not any(None in row for row in rows):
                found.append(1 + max(map(sum, rows)))
        known[many, there, rounds] = min(found, default=None)
    return known[many, there, rounds]


def some_paper(chance, many, there, lacks=False):
    paper = {(length, count): chance.randrange(1, length) for length, count in stretches_of(many, there)}
    if lacks and paper:
        key = chance.choice(sorted(paper))
        wrong = chance.choice([None, 0, key[0], key[0] + 1, -1, True, "1", [1], (1,)])
        paper[key] = wrong
        if wrong is None:
            del paper[key]
    return paper


class WorstCase(unittest.TestCase):

    def test_all_papers_for_small_numbers(self):
        for many in range(5):
            for there in range(many + 1):
                for paper in papers(many, there):
                    self.assertEqual(worst_case(paper, many, there), searched_worst(paper, many, there))

    def test_drawn_papers(self):
        chance = random.Random(90)
        for _ in range(150):
            many = chance.randint(2, 9)
            there = chance.randint(0, many)
            paper = some_paper(chance, many, there)
            self.assertEqual(worst_case(paper, many, there), searched_worst(paper, many, there))

    def test_papers_that_lack_a_cut(self):
        chance = random.Random(91)
        seen = set()
        for _ in range(300):
            many = chance.randint(2, 8)
            there = chance.randint(1, many - 1)
            paper = some_paper(chance, many, there, True)
            found = worst_case(paper, many, there)
            self.assertEqual(found, searched_worst(paper, many, there))
            seen.add(found is None)
        self.assertEqual(seen, {True, False})

    def test_clear_stretches_need_no_cut(self):
        for many in (0, 1, 2, 24):
            self.assertEqual([worst_case({}, many, 0), worst_case({}, many, many)], [(0, 0), (0, 0)])
        self.assertIsNone(worst_case({}, 2, 1))

    def test_only_stretches_that_can_come_matter(self):
        paper = {(4, 1): 1, (3, 1): 1, (2, 1): 1, (3, 2): 9, (24, 3): None, "x": 1, (1,): 1, (5, 5): [], None: 2}
        self.assertEqual(worst_case(paper, 4, 1), (3, 3))
        self.assertIsNone(worst_case(paper, 3, 2))
        self.assertIsNone(worst_case(paper, 4, 3))

    def test_a_bool_is_no_integer(self):
        self.assertEqual(worst_case({(2, 1): 1}, 2, 1), (1, 1))
        self.assertIsNone(worst_case({(2, 1): True}, 2, 1))
        self.assertIsNone(worst_case({(2, True): 1}, 2, 1))

    def test_what_is_no_dict(self):
        for value in objects():
            if not isinstance(value, dict):
                self.assertIsNone(worst_case(value, 2, 1))
                self.assertIsNone(worst_case(value, 3, 0))
        self.assertIsNone(worst_case([((2, 1), 1)], 2, 1))

    def test_twenty_four(self):
        paper = {key: key[0] // 2 for key in stretches_of(24, 12)}
        self.assertEqual(worst_case(paper, 24, 12)[1], 5)
        paper = {key: 1 for key in stretches_of(24, 12)}
        self.assertEqual(worst_case(paper, 24, 12), (23, 23))


class Least(unittest.TestCase):

    def test_against_all_papers(self):
        for many in range(6):
            for there in range(many + 1):
                found = {searched_worst(paper, many, there) for paper in papers(many, there)} if many < 5 else None
                if found:
                    self.assertEqual(least_probes(many, there), min(probes for probes, _ in found))
                    self.assertEqual(least_rounds(many, there), min(rounds for _, rounds in found))
                    self.assertEqual(least_probes(many, there, rounds=None), least_probes(many, there))

    def test_against_all_strategies(self):
        known = {}
        for many in range(1, 13):
            for there in range(many + 1):
                rows = []
                for rounds in range(many + 2):
                    least = trees(many, there, rounds, known)
                    self.assertEqual(least_probes(many, there, rounds=rounds), least)
                    if least is not None and (not rows or least < rows[-1][1]):
                        rows.append((rounds, least))
                self.assertEqual(curve(many, there), rows)
                self.assertEqual(least_rounds(many, there), rows[0][0])
                self.assertEqual(least_probes(many, there), rows[-1][1])

    def test_facts(self):
        for many in range(1, 25):
            for there in {many // 2, (many + 1) // 2}:
                self.assertEqual(least_probes(many, there), many - 1)
            for there in {1, many - 1}:
                self.assertEqual(least_probes(many, there) if there else 0, (many - 1).bit_length())

    def test_curves_against_least_probes(self):
        rows = {many: [curve(many, there) for there in range(many + 1)] for many in (6, 12, 24)}
        for many, found in rows.items():
            for there, row in enumerate(found):
                rounds = [pair[0] for pair in row]
                probes = [pair[1] for pair in row]
                self.assertEqual([rounds, probes], [sorted(set(rounds)), sorted(set(probes), reverse=True)])
                for at, (round_count, probe_count) in enumerate(row):
                    self.assertEqual(least_probes(many, there, rounds=round_count), probe_count)
                    ahead = least_probes(many, there, rounds=round_count - 1) if round_count else None
                    self.assertEqual(ahead, row[at - 1][1] if at else None)

    def test_many_rounds_and_none(self):
        for many, there in ((0, 0), (5, 0), (5, 5), (24, 24)):
            self.assertEqual([least_probes(many, there, rounds=0), least_rounds(many, there)], [0, 0])
            self.assertEqual([curve(many, there), best_paper(many, there)], [[(0, 0)], {}])
        self.assertIsNone(least_probes(4, 2, rounds=0))
        self.assertIsNone(least_probes(4, 2, rounds=1))
        self.assertEqual([least_probes(4, 2, rounds=at) for at in (2, 3, 10 ** 30 - 1)], [3, 3, 3])
        self.assertEqual(least_probes(24, 12, rounds=10 ** 30 - 1), 23)


class BestPaper(unittest.TestCase):

    def test_entries_and_cuts(self):
        known = {}
        for many in range(1, 12):
            for there in range(many + 1):
                paper = best_paper(many, there)
                self.assertIs(type(paper), dict)
                self.assertEqual(worst_case(paper, many, there), searched_worst(paper, many, there))
                self.assertEqual(worst_case(paper, many, there)[0], least_probes(many, there))
                self.assertEqual(set(paper), self.keys(paper, many, there))
                for (length, count), cut in paper.items():
                    fine = [at for at in range(1, length) if self.with_cut(length, count, at, known) == trees(length, count, 99, known)]
                    self.assertEqual(cut, fine[0])

    def keys(self, paper, many, there):
        """The stretches that come of one by a paper."""
        seen, pending = set(), [(many, there)]
        while pending:
            length, count = pending.pop()
            if 0 < count < length and (length, count) not in seen:
                seen.add((length, count))
                cut = paper[length, count]
                for left in range(max(0, count - length + cut), min(cut, count) + 1):
                    pending += [(cut, left), (length - cut, count - left)]
        return seen

    def with_cut(self, length, count, cut, known):
        lefts = range(max(0, count - length + cut), min(cut, count) + 1)
        return 1 + max(trees(cut, at, 99, known) + trees(length - cut, count - at, 99, known) for at in lefts)

    def test_least_of_all_papers(self):
        for many in range(2, 5):
            for there in range(1, many):
                least = least_probes(many, there)
                cuts = [paper[many, there] for paper in papers(many, there) if searched_worst(paper, many, there)[0] == least]
                self.assertEqual(best_paper(many, there)[many, there], min(cuts))

    def test_twenty_four(self):
        for there in (1, 2, 7, 12, 20, 23):
            paper = best_paper(24, there)
            self.assertEqual(worst_case(paper, 24, there)[0], least_probes(24, there))
            self.assertEqual(set(paper), self.keys(paper, 24, there))


class AskedRounds(unittest.TestCase):

    def test_value_by_value(self):
        paper = {(4, 2): 2, (2, 1): 1, (4, 1): 1, (3, 1): 2}
        told = {
            (True, True, False, False): [[(2, 2)]],
            (False, False, True, True): [[(2, 0)]],
            (True, False, True, False): [[(2, 1)], [(1, 1), (3, 2)]],
            (False, True, True, False): [[(2, 1)], [(1, 0), (3, 2)]],
            (False, True, False, False): [[(1, 0)], [(3, 1)], [(2, 1)]],
            (True, False, False, False): [[(1, 1)]],
            (True, True): [], (False,): [], (): [],
        }
        for pattern, rounds in told.items():
            self.assertEqual(asked_rounds(paper, pattern), rounds)

    def test_against_a_walk(self):
        chance = random.Random(92)
        for _ in range(200):
            many = chance.randint(0, 24)
            pattern = tuple(chance.random() < 0.6 for _ in range(many))
            for paper in (some_paper(chance, many, sum(pattern)), best_paper(many, sum(pattern))):
                self.assertEqual(asked_rounds(paper, pattern), walk(paper, pattern))

    def test_wrong(self):
        for value in objects() + [(True, 1), (0, 1), (None,), [True], (False,) * 25]:
            if not (type(value) is tuple and len(value) <= 24 and all(type(item) is bool for item in value)):
                self.assertEqual(raised(asked_rounds, 5, value), ("BadValue", "pattern"))
            if type(value) is not dict:
                self.assertEqual(raised(asked_rounds, value, (True, False)), ("BadValue", "paper"))
                self.assertEqual(raised(asked_rounds, value, ()), ("BadValue", "paper"))
        self.assertEqual(asked_rounds({}, (True,) * 24), [])
        # A paper that is enough for this pattern, but not for all others with as many.
        self.assertEqual(raised(asked_rounds, {(3, 1): 1}, (True, False, False)), ("BadValue", "paper"))
        self.assertEqual(asked_rounds({(3, 1): 1, (2, 1): 1}, (True, False, False)), [[(1, 1)]])


def letter_line(letter):
    number, _, signs, mark = letter
    return ("server", f"{number} {mark} " + (",".join(signs) if signs else "-"))


def searched_lines(way, folder, known, mark):
    """The lines of a way, as the document words them."""
    done = ("server", f"done {folder.mark()} {folder.next_number()}")
    there = [letter[0] for letter in folder.letters()]
    gone = [number for number in known if number not in there]
    if way == "all":
        return [("client", "all"), *map(letter_line, folder.letters()), done]
    lines = [("client", f"since {mark}")] + [letter_line(letter) for letter in folder.letters() if letter[3] > mark]
    if way == "since":
        if folder.cut() > mark:
            return None
        return lines + ([("server", "gone " + shortest(gone, known))] if gone else []) + [done]
    lines.append(done)
    if way == "probe" and len(known) > 24:
        return None
    if not known:
        return lines
    if way == "sieve":
        lines.append(("client", "there " + plain_set(known)))
        return lines + [("server", "gone " + shortest(gone, known) if gone else "gone")]
    pattern = tuple(number in there for number in known)
    rounds = [[(len(known), sum(pattern))]] + walk(best_paper(len(known), sum(pattern)), pattern)
    for asked in rounds:
        lines += [("client", f"count {known[n - 1]}") for n, _ in asked]
        for n, _ in asked:
            lines.append(("server", str(len([number for number in there if number <= known[n - 1]]))))
    return lines


def searched_cost(lines):
    if lines is None:
        return None
    text = "".join(side[0] for side, _ in lines)
    return (sum(len(line) for _, line in lines) + len(lines), text.count("cs"))


def drawn(chance, marks):
    """A folder, the numbers that a client knew at some mark, and this mark."""
    history = some_history(chance, 1, marks)
    at = chance.randint(0, len(history))
    ahead = played(Folder(1), history[:at])
    return played(Folder(1), history), tuple(letter[0] for letter in ahead.letters()), ahead.mark()


class Ways(unittest.TestCase):

    def test_value_by_value(self):
        folder = Folder(1).appended(0, ("b",)).appended(0, ()).appended(0, ("a",)).appended(0, ()).removed((1, 3))
        folder = folder.added((2,), "x").added((2,), "y").appended(9, ())
        known, mark = (1, 2, 3, 4), 4
        rows = [("server", "2 8 x,y"), ("server", "5 9 -")]
        done = ("server", "done 9 6")
        self.assertEqual(
            way_lines("all", folder, known, mark), [("client", "all"), rows[0], ("server", "4 4 -"), rows[1], done])
        self.assertEqual(
            way_lines("since", folder, known, mark), [("client", "since 4"), *rows, ("server", "gone 1,3"), done])
        ahead = [("client", "since 4"), *rows, done]
        self.assertEqual(way_lines("sieve", folder, known, mark), ahead + [("client", "there 1:4"), ("server", "gone 1,3")])
        self.assertEqual(way_lines("probe", folder, known, mark), ahead + [
            ("client", "count 4"), ("server", "2"), ("client", "count 1"), ("server", "0"), ("client", "count 2"),
            ("server", "1"), ("client", "count 3"), ("server", "1"),
        ])
        self.assertEqual([way_cost(way, folder, known, mark) for way in WAYS], [(33, 1), (40, 1), (50, 2), (71, 5)])
        self.assertEqual(cheapest(folder, known, mark), ["all"])

    def test_probes_of_one_round_side_by_side(self):
        folder = Folder(1)
        for _ in range(16):
            folder = folder.appended(0, ())
        folder = folder.removed((2, 13))
        known = tuple(range(1, 17))
        lines = way_lines("probe", folder, known, 16)
        self.assertEqual(lines, searched_lines("probe", folder, known, 16))
        sides = "".join(side[0] for side, _ in lines)
        self.assertIn("ccss", sides)
        self.assertEqual(way_cost("probe", folder, known, 16)[1], sides.count("cs"))

    def test_nothing_known(self):
        folder = three().trimmed(3)
        for known in ((), []):
            self.assertEqual(way_lines("since", folder, known, 3), [("client", "since 3"), ("server", "done 3 4")])
            self.assertEqual(way_lines("sieve", folder, known, 3), [("client", "since 3"), ("server", "done 3 4")])
            self.assertEqual(way_lines("probe", folder, known, 3), [("client", "since 3"), ("server", "done 3 4")])
            self.assertEqual([way_cost(way, folder, known, 3)[1] for way in WAYS], [1, 1, 1, 1])
            self.assertEqual(cheapest(folder, known, 3), ["since", "sieve", "probe"])

    def test_nothing_gone(self):
        folder = three()
        done = ("server", "done 3 4")
        self.assertEqual(way_lines("since", folder, (1, 2, 3), 3), [("client", "since 3"), done])
        self.assertEqual(
            way_lines("sieve", folder, (1, 2, 3), 3),
            [("client", "since 3"), done, ("client", "there 1:3"), ("server", "gone")])
        self.assertEqual(
            way_lines("probe", folder, (1, 2, 3), 3), [("client", "since 3"), done, ("client", "count 3"), ("server", "3")])
        self.assertEqual([way_cost(way, folder, (1, 2, 3), 3) for way in WAYS[1:]], [(17, 1), (32, 2), (27, 2)])

    def test_a_trimmed_folder(self):
        folder = three().removed((1,)).trimmed(2)
        self.assertIsNone(way_lines("since", folder, (1, 2, 3), 1))
        self.assertIsNone(way_cost("since", folder, (1, 2, 3), 1))
        self.assertIsNotNone(way_lines("since", folder, (1, 2, 3), 2))
        self.assertNotIn("since", cheapest(folder, (1, 2, 3), 0))
        self.assertEqual([way_lines(way, folder, (1, 2, 3), 0) is None for way in WAYS], [False, True, False, False])

    def test_twenty_four_and_twenty_five(self):
        folder = Folder(1)
        for _ in range(25):
            folder = folder.appended(0, ())
        folder = folder.removed((1, 7, 8, 25))
        known = tuple(range(1, 26))
        self.assertIsNone(way_lines("probe", folder, known, 25))
        self.assertIsNone(way_cost("probe", folder, known, 25))
        self.assertIsNotNone(way_lines("sieve", folder, known, 25))
        for row in (known[:24], known[1:], list(known[1:])):
            if row[0] == 1 or 1 not in [letter[0] for letter in folder.letters()]:
                self.assertEqual(way_lines("probe", folder, row, 25), searched_lines("probe", folder, row, 25))
        self.assertEqual(cheapest(folder, known, 25), ["since"])

    def test_known_numbers_that_never_were(self):
        folder = three().removed((2,))
        known = (1, 2, 3, 9, 10 ** 30 - 1)
        for way in WAYS:
            self.assertEqual(way_lines(way, folder, known, 3), searched_lines(way, folder, known, 3))
        self.assertIn(("client", f"count {10 ** 30 - 1}"), way_lines("probe", folder, known, 3))

    def test_drawn(self):
        chance = random.Random(93)
        best = set()
        for turn in range(250):
            folder, known, mark = drawn(chance, chance.randint(0, 12 if turn % 10 else 90))
            costs = {}
            for way in WAYS:
                lines = way_lines(way, folder, known, mark)
                self.assertEqual(lines, searched_lines(way, folder, known, mark))
                costs[way] = way_cost(way, folder, known, mark)
                self.assertEqual(costs[way], searched_cost(lines))
                if lines and known and way == "sieve":
                    text = lines[-2][1].split()[1]
                    self.assertEqual(meant(text, known), list(known))
            least = min(cost for cost in costs.values() if cost)
            found = cheapest(folder, known, mark)
            self.assertEqual(found, [way for way in WAYS if costs[way] == least])
            best.add(found[0])
        self.assertEqual(best, set(WAYS))

    def test_probe_can_be_cheapest(self):
        # Many numbers far apart, whose text is long, and a trimmed log.
        folder = Folder(1)
        for _ in range(199):
            folder = folder.appended(0, ("aaaaaaaa",))
        known = tuple(range(9, 200, 8))
        folder = folder.removed([number for number in range(1, 200) if number not in known]).trimmed(200)
        self.assertEqual(cheapest(folder, known, 199), ["probe"])


class Errors(unittest.TestCase):

    def test_numbers(self):
        calls = [lambda many, there: worst_case(5, many, there), least_probes, least_rounds, best_paper, curve]
        for call in calls:
            for value in objects() + [25, -1]:
                if not (type(value) is int and 0 <= value <= 24):
                    self.assertEqual(raised(call, value, 5), ("BadValue", "many"))
                if not (type(value) is int and 0 <= value <= 3):
                    self.assertEqual(raised(call, 3, value), ("BadValue", "there"))
            self.assertEqual(raised(call, 25, -1), ("BadValue", "many"))
            self.assertEqual(raised(call, 24, 25), ("BadValue", "there"))

    def test_rounds(self):
        for value in objects():
            if not is_whole(value, 0) and value is not None:
                self.assertEqual(raised(lambda: least_probes(4, 2, rounds=value)), ("BadValue", "rounds"))
                self.assertEqual(raised(lambda: least_probes(25, 2, rounds=value)), ("BadValue", "many"))
                self.assertEqual(raised(lambda: least_probes(4, 5, rounds=value)), ("BadValue", "there"))

    def test_rounds_are_passed_by_name_only(self):
        with self.assertRaises(TypeError):
            least_probes(4, 2, 3)

    def test_ways(self):
        folder = three()
        for call in (way_lines, way_cost):
            for value in objects() + ["All", "probes", ("all",)]:
                if value not in WAYS:
                    self.assertEqual(raised(call, value, 5, 5, 5), ("BadValue", "way"))
                if not isinstance(value, Folder):
                    self.assertEqual(raised(call, "all", value, 5, 5), ("BadFolder", value))
        for call in (lambda *rest: way_lines("all", *rest), lambda *rest: way_cost("probe", *rest), cheapest):
            self.assertEqual(raised(call, 5, 5, 5), ("BadFolder", 5))
            for value in objects():
                if type(value) not in (list, tuple):
                    self.assertEqual(raised(call, folder, value, 5), ("BadRow", -1))
                if not is_whole(value, 4) or value >= 10 ** 30:
                    self.assertEqual(raised(call, folder, (1, 2, 3, value), 5), ("BadRow", 3))
                if not (type(value) is int and 0 <= value <= 3):
                    self.assertEqual(raised(call, folder, (1, 2, 3), value), ("BadValue", "mark"))
            self.assertEqual(raised(call, folder, (1, 3, 3), 9), ("BadRow", 2))
            self.assertEqual(raised(call, folder, tuple(range(1, 202)), 9), ("BadRow", 200))
            self.assertEqual(raised(call, folder, (1, 3), 9), ("BadValue", "known"))
            self.assertEqual(raised(call, folder, (2,), 9), ("BadValue", "known"))
            self.assertEqual(raised(call, folder.added((2,), "q"), (1, 3), 9), ("BadValue", "known"))
            self.assertEqual(raised(call, folder.removed((1,)).added((2,), "q"), (1, 3, 4), 9), ("BadValue", "known"))
            self.assertEqual(raised(call, folder, (1, 2), 4), ("BadValue", "mark"))
            self.assertEqual(raised(call, folder.removed((2,)), (1, 3), 5), ("BadValue", "mark"))
            self.assertIsNotNone(call(folder.removed((2,)), (1, 3), 4))

    def test_arguments_stay(self):
        folder, known, paper = three(), [1, 2], {(2, 1): 1}
        ahead = copy.deepcopy((known, paper)), state(folder)
        cheapest(folder, known, 2)
        way_lines("probe", folder, known, 2)
        worst_case(paper, 2, 1)
        asked_rounds(paper, (True, False))
        self.assertEqual(((known, paper), state(folder)), ahead)
        one, two = best_paper(5, 2), best_paper(5, 2)
        one.clear()
        self.assertTrue(two)


if __name__ == "__main__":
    unittest.main()
