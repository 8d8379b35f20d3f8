"""What it costs to be in step: probes that find what went, and the lines of four ways to be in step."""

from mailtide.errors import BadFolder, BadValue
from mailtide.folders import Folder
from mailtide.kinds import is_integer, is_mark, signs_text
from mailtide.probes import Probing, cuts_of, rounds_of, worst_of
from mailtide.sets import check_row, plain_set, shortest

MOST_NUMBERS = 24
WAYS = ("all", "since", "sieve", "probe")


def worst_case(paper, many, there):
    """The greatest numbers of probes and of rounds by a paper, or None if it is none for so many numbers."""
    _check_many(many, there)
    return worst_of(cuts_of(paper), many, there)


def least_probes(many, there, *, rounds=None):
    """The least number of probes that is enough in at most so many rounds, or None."""
    _check_many(many, there)
    if rounds is None:
        rounds = many
    if not is_integer(rounds) or rounds < 0:
        raise BadValue("rounds")
    return Probing().least(many, there, rounds)


def least_rounds(many, there):
    """The least number of rounds."""
    _check_many(many, there)
    return _curve(many, there)[0][0]


def best_paper(many, there):
    """The paper of the least cuts with which the least number of probes is enough."""
    _check_many(many, there)
    return Probing().paper(many, there)


def curve(many, there):
    """The ascending list of (rounds, probes) where more rounds need fewer probes."""
    _check_many(many, there)
    return _curve(many, there)


def asked_rounds(paper, pattern):
    """The list of rounds, each the list of (how many of the first are asked for, how many of them are there)."""
    if not _is_pattern(pattern):
        raise BadValue("pattern")
    cuts = cuts_of(paper)
    if worst_of(cuts, len(pattern), sum(pattern)) is None:
        raise BadValue("paper")
    return rounds_of(cuts, pattern)


def way_lines(way, folder, known, mark):
    """The lines of a way to be in step, or None if it can not be gone."""
    if not isinstance(way, str) or way not in WAYS:
        raise BadValue("way")
    _check_known(folder, known, mark)
    return _way_lines(way, folder, known, mark)


def way_cost(way, folder, known, mark):
    """How many signs a way takes, and how often the client waits, or None if it can not be gone."""
    if not isinstance(way, str) or way not in WAYS:
        raise BadValue("way")
    _check_known(folder, known, mark)
    return _way_cost(way, folder, known, mark)


def cheapest(folder, known, mark):
    """The list of the ways of the fewest signs, of these those of the fewest rounds."""
    _check_known(folder, known, mark)
    costs = {way: _way_cost(way, folder, known, mark) for way in WAYS}
    least = min([cost for cost in costs.values() if cost is not None])
    return [way for way in WAYS if costs[way] == least]


def _curve(many, there):
    """The ascending list of (rounds, probes) where more rounds need fewer probes."""
    probing = Probing()
    rows = []
    # With as many rounds as there are numbers, there is never one too few.
    for rounds in range(many + 1):
        probes = probing.least(many, there, rounds)
        if probes is not None and (not rows or probes < rows[-1][1]):
            rows.append((rounds, probes))
    return rows


def _way_lines(way, folder, known, mark):
    """The lines of a way to be in step, or None if it can not be gone."""
    done = ("server", f"done {folder.mark()} {folder.next_number()}")
    if way == "all":
        return [("client", "all")] + _letter_lines(folder.letters()) + [done]
    if way == "since" and folder.cut() > mark or way == "probe" and len(known) > MOST_NUMBERS:
        return None
    changed = [letter for letter in folder.letters() if letter[3] > mark]
    lines = [("client", f"since {mark}")] + _letter_lines(changed)
    there = {letter[0]: True for letter in folder.letters()}
    gone = [number for number in known if number not in there]
    told = [("server", f"gone {shortest(gone, known)}")] if gone else []
    if way == "since":
        return lines + told + [done]
    if not known:
        return lines + [done]
    if way == "sieve":
        return lines + [done, ("client", f"there {plain_set(known)}")] + (told if told else [("server", "gone")])
    return lines + [done] + _probe_lines(known, tuple([number in there for number in known]))


def _letter_lines(letters):
    """The lines that tell letters."""
    return [("server", f"{number} {mark} {signs_text(signs)}") for number, _, signs, mark in letters]


def _probe_lines(known, pattern):
    """The lines by which it is found which known numbers are there."""
    rounds = rounds_of(Probing().paper(len(pattern), sum(pattern)), pattern)
    lines = []
    for asked in [[(len(pattern), sum(pattern))]] + rounds:
        lines.extend([("client", f"count {known[n - 1]}") for n, _ in asked])
        lines.extend([("server", str(answer)) for _, answer in asked])
    return lines


def _way_cost(way, folder, known, mark):
    """How many signs a way takes, and how often the client waits, or None if it can not be gone."""
    lines = _way_lines(way, folder, known, mark)
    if lines is None:
        return None
    waits = [one for one, two in zip(lines, lines[1:]) if one[0] == "client" and two[0] == "server"]
    return (sum([len(text) + 1 for _, text in lines]), len(waits))


def _check_many(many, there):
    """Raise BadValue if these are not how many numbers are known, and how many of them are there."""
    if not is_integer(many) or not 0 <= many <= MOST_NUMBERS:
        raise BadValue("many")
    if not is_integer(there) or not 0 <= there <= many:
        raise BadValue("there")


def _is_pattern(value):
    """Whether the value is a tuple of bools, not too many."""
    if not isinstance(value, tuple) or len(value) > MOST_NUMBERS:
        return False
    return all([isinstance(is_there, bool) for is_there in value])


def _check_known(folder, known, mark):
    """Raise the error of the first of these that is wrong."""
    if not isinstance(folder, Folder):
        raise BadFolder(folder)
    check_row(known)
    numbers = {number: True for number in known}
    for letter in folder.letters():
        if known and letter[0] <= known[-1] and letter[0] not in numbers:
            raise BadValue("known")
    if not is_mark(mark) or mark > folder.mark():
        raise BadValue("mark")
