"""Probes that find which ones of known numbers are there, if it is known how many."""

from mailtide.kinds import is_integer


class Probing:
    """The least numbers of probes, each reckoned once."""

    def __init__(self):
        self._known = {}

    def least(self, many, there, rounds):
        """The least number of probes for a stretch that is enough in so many rounds, or None."""
        if _is_clear(many, there):
            return 0
        if rounds == 0:
            return None
        # A stretch that is turned round, or whose gone letters are there and the others gone, needs as many. Each
        # round shortens it, so that more rounds than this are of no use.
        key = (many, min(there, many - there), min(rounds, many - 1))
        if key not in self._known:
            probes = [self._with_cut(many, there, cut, key[2]) for cut in range(1, many // 2 + 1)]
            self._known[key] = min([number for number in probes if number is not None], default=None)
        return self._known[key]

    def paper(self, many, there):
        """The paper of the least cuts with which the least number of probes is enough."""
        paper = {}
        pending = [(many, there)]
        while pending:
            length, count = pending.pop()
            if _is_clear(length, count) or (length, count) in paper:
                continue
            least = self.least(length, count, length)
            cuts = [cut for cut in range(1, length) if self._with_cut(length, count, cut, length) == least]
            paper[(length, count)] = cuts[0]
            for left, right in _halves(length, count, cuts[0]):
                pending.extend([left, right])
        return paper

    def _with_cut(self, many, there, cut, rounds):
        """The least number of probes for a stretch that is cut so first, or None."""
        worst = 0
        for left, right in _halves(many, there, cut):
            one = self.least(left[0], left[1], rounds - 1)
            two = self.least(right[0], right[1], rounds - 1)
            if one is None or two is None:
                return None
            worst = max(worst, one + two)
        return worst + 1


def cuts_of(paper):
    """The dict of the entries of a paper that are for stretches, or None for what is no dict."""
    if not isinstance(paper, dict):
        return None
    cuts = {}
    for key in paper:
        if isinstance(key, tuple) and len(key) == 2 and is_integer(key[0]) and is_integer(key[1]):
            cuts[key] = paper[key]
    return cuts


def worst_of(cuts, many, there):
    """The greatest numbers of probes and of rounds for a stretch, or None if there are no right cuts for it."""
    if cuts is None:
        return None
    found = {}
    # Stretches wait until those are reckoned that come of them.
    pending = [(many, there)]
    while pending:
        length, count = pending[-1]
        halves = []
        if not _is_clear(length, count):
            cut = cuts.get((length, count))
            if not is_integer(cut) or not 0 < cut < length:
                return None
            halves = _halves(length, count, cut)
        waiting = [part for pair in halves for part in pair if part not in found]
        if waiting:
            pending.extend(waiting)
            continue
        probes = max([1 + found[left][0] + found[right][0] for left, right in halves], default=0)
        rounds = max([1 + max(found[left][1], found[right][1]) for left, right in halves], default=0)
        found[pending.pop()] = (probes, rounds)
    return found[(many, there)]


def rounds_of(cuts, pattern):
    """The rounds of a pattern by the cuts of a paper: lists of (n, how many of the first n are there)."""
    rounds = []
    stretches = [(0, len(pattern))]
    while True:
        asked = []
        parts = []
        for begin, end in stretches:
            count = sum(pattern[begin:end])
            if not _is_clear(end - begin, count):
                middle = begin + cuts[(end - begin, count)]
                asked.append((middle, sum(pattern[:middle])))
                parts.extend([(begin, middle), (middle, end)])
        if not asked:
            return rounds
        rounds.append(asked)
        stretches = parts


def _is_clear(many, there):
    """Whether none or all of a stretch are there."""
    return there in (0, many)


def _halves(many, there, cut):
    """The list of the pairs of stretches that can come of a cut."""
    rest = many - cut
    counts = range(max(0, there - rest), min(cut, there) + 1)
    return [((cut, count), (rest, there - count)) for count in counts]
