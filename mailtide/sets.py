"""Texts of sets: what they mean, the shortest ones, and what parts two of them."""

from math import factorial

from mailtide.errors import BadNumber, BadRow, BadSet, BadValue
from mailtide.kinds import is_number

MOST_FIGURES = 30
GREATEST = 999_999_999_999_999_999_999_999_999_999
MOST_THERE = 200
# Numbers begin with 1, so 0 is free to stand for the star among the ends.
STAR = 0


def meant(text, there):
    """The ascending list of the numbers that a set text means among those that are there."""
    items = items_of(text)
    check_row(there)
    return found_among(items, there)


def shortest(some, there):
    """The first one of the shortest set texts that mean just some of the numbers that are there."""
    _check_some(some, there)
    if some:
        return _text_of(_parts_among(some, there))
    return str(_least_absent(there)) if there else "*"


def count_shortest(some, there):
    """How many of the shortest set texts mean just some of the numbers that are there."""
    _check_some(some, there)
    if some:
        return _count_texts(_parts_among(some, there))
    return _count_texts_of_none(there)


def plain_set(some):
    """The first one of the shortest set texts without a star that mean just these, whatever others are there."""
    check_row(some)
    if not some:
        raise BadValue("empty")
    runs = _merged([(number, number) for number in some])
    return _text_of([Part(first, last, last - first + 1, first, last, False) for first, last in runs])


def parting(text, other):
    """The fewest and first numbers among which two set texts do not mean the same, or None."""
    one = items_of(text)
    two = items_of(other)
    number = _first_apart(_meant_as_greatest(one), _meant_as_greatest(two))
    if number is not None:
        return (number,)
    number = _first_apart(_meant_as_lesser(one), _meant_as_lesser(two))
    if number is not None:
        return (number, number + 1)
    return None


def items_of(text):
    """The items of a set text, each as its two ends; an item of one end has it twice."""
    if not is_set_text(text):
        raise BadSet(text)
    items = [[_end_of(word) for word in item.split(":")] for item in text.split(",")]
    return [(ends[0], ends[-1]) for ends in items]


def is_set_text(value):
    """Whether the value is a set text."""
    if not isinstance(value, str):
        return False
    for item in value.split(","):
        ends = [_end_of(word) for word in item.split(":")]
        if len(ends) > 2 or None in ends:
            return False
    return True


def found_among(items, there):
    """The ascending list of the numbers that items mean among ascending ones that are there."""
    if not there:
        return []
    return _covered(there, _merged([_span(item, there[-1]) for item in items]))


def check_row(row):
    """Raise BadRow if this is no ascending row of numbers."""
    if not isinstance(row, (list, tuple)):
        raise BadRow(-1)
    ahead = 0
    for at, number in enumerate(row):
        if at == MOST_THERE or not is_number(number) or not ahead < number <= GREATEST:
            raise BadRow(at)
        ahead = number


def _end_of(word):
    """The number that a word tells, STAR, or None for what is no end."""
    if word == "*":
        return STAR
    # Figures of other scripts are digits to Python, too.
    if not word.isascii() or not word.isdigit():
        return None
    if word[0] == "0" or len(word) > MOST_FIGURES:
        return None
    return int(word)


def _check_some(some, there):
    """Raise an error if these are no rows of numbers, or some are not there."""
    check_row(some)
    check_row(there)
    known = set(there)
    for number in some:
        if number not in known:
            raise BadNumber(number)


def _span(item, greatest):
    """The least and the greatest number of an item, if the star is this one."""
    ends = sorted([greatest if end == STAR else end for end in item])
    return (ends[0], ends[1])


def _merged(spans):
    """The fewest spans with the same numbers, ascending; so no two of them overlap or touch."""
    rows = []
    for least, last in sorted(spans):
        if rows and least <= rows[-1][1] + 1:
            rows[-1] = (rows[-1][0], max(rows[-1][1], last))
        else:
            rows.append((least, last))
    return rows


def _covered(numbers, spans):
    """Those of ascending numbers that are in merged spans."""
    found = []
    at = 0
    for number in numbers:
        while at < len(spans) and spans[at][1] < number:
            at += 1
        if at < len(spans) and spans[at][0] <= number:
            found.append(number)
    return found


def _meant_as_greatest(items):
    """The numbers that the items mean where they are the greatest that is there, as merged spans."""
    # A star means the greatest number, whatever the other end is.
    if any([STAR in item for item in items]):
        return [(1, GREATEST)]
    return _merged([_span(item, GREATEST) for item in items])


def _meant_as_lesser(items):
    """The numbers that the items mean where a greater one is there, as merged spans."""
    # An item with a star goes on to whatever is there, so to a lesser number it is as if it went on for ever.
    spans = [_span(item, GREATEST) for item in items]
    return _merged([(least, min(last, GREATEST - 1)) for least, last in spans if least < GREATEST])


def _first_apart(one, two):
    """The least number that is in just one of two rows of merged spans, or None."""
    for (least, last), (begin, end) in zip(one, two):
        if least != begin:
            return min(least, begin)
        if last != end:
            return min(last, end) + 1
    rest = one[len(two):] + two[len(one):]
    return rest[0][0] if rest else None


class Part:
    """Neighbours that one item can mean, and the room that its ends have without meaning others."""

    def __init__(self, first, last, many, floor, top, has_star):
        self.first = first
        self.last = last
        self.many = many
        # The lesser end may stand from floor to first, the greater one from last to top.
        self.floor = floor
        self.top = top
        self.has_star = has_star

    def best_items(self):
        """The items with the fewest signs that stand first in a text: one, or two for two numbers."""
        high = "*" if self.has_star else str(self.last)
        if self.many == 1:
            return [high]
        low = str(self.floor)
        item = min(f"{low}:{high}", f"{high}:{low}")
        pair = [str(self.first), high]
        # Behind the end that stands first, a comma is less than a colon.
        if self._can_be_two() and min(pair) < item:
            return pair
        return [item]

    def count_one(self):
        """In how many ways one item of the fewest signs means this part."""
        if self.many == 1:
            return self._count_names()
        if self.has_star:
            greater = 1 + (_count_alike(self.last, 9) if self.last <= 9 else 0)
        else:
            greater = _count_alike(self.last, self.top)
        return 2 * _count_alike(self.floor, self.first) * greater

    def count_two(self):
        """In how many ways two items, their order left aside, mean this part by as few signs as one."""
        return self._count_names() if self._can_be_two() else 0

    def _can_be_two(self):
        """Whether two items of one end have as few signs as one item of two ends."""
        return self.many == 2 and len(str(self.floor)) == len(str(self.first))

    def _count_names(self):
        """How many ends of the fewest signs mean the last number alone."""
        return 2 if self.has_star and self.last <= 9 else 1


def _parts_among(some, there):
    """The parts of some of the numbers that are there."""
    places = {number: place for place, number in enumerate(there)}
    parts = []
    for begin, end in _merged([(places[number], places[number]) for number in some]):
        floor = there[begin - 1] + 1 if begin else 1
        has_star = end + 1 == len(there)
        top = GREATEST if has_star else there[end + 1] - 1
        parts.append(Part(there[begin], there[end], end - begin + 1, floor, top, has_star))
    return parts


def _text_of(parts):
    """The first one of the shortest texts of these parts."""
    items = []
    for part in parts:
        items.extend(part.best_items())
    return ",".join(sorted(items))


def _count_texts(parts):
    """How many of the shortest texts these parts have."""
    # ways[k] is the number of choices of k items, their order left aside.
    ways = [1]
    for part in parts:
        one, two = part.count_one(), part.count_two()
        grown = [0] * (len(ways) + 2)
        for many, number in enumerate(ways):
            grown[many + 1] += number * one
            grown[many + 2] += number * two
        ways = grown
    return sum([number * factorial(many) for many, number in enumerate(ways)])


def _least_absent(there):
    """The least number that is not there."""
    absent = 1
    for number in there:
        if number == absent:
            absent += 1
    return absent


def _count_texts_of_none(there):
    """How many of the shortest texts mean no number that is there."""
    if not there:
        # The star, and each number of one figure.
        return 10
    # All numbers of fewer figures are there, so nothing else is as short as a number that is not.
    figures = len(str(_least_absent(there)))
    least = int("1" + "0" * (figures - 1))
    taken = [number for number in there if len(str(number)) == figures]
    return _count_alike(least, GREATEST) - len(taken)


def _count_alike(least, last):
    """How many numbers from the least to the last one have as many figures as the least one."""
    return min(last, int("9" * len(str(least)))) - least + 1
