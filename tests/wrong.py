"""Objects of many kinds that a caller may pass where they do not belong."""

from mailtide.copies import Copy
from mailtide.errors import BadSet
from mailtide.folders import Folder
from mailtide.search import Kept
from mailtide.views import Session
from mailtide.world import World


def plain_function():
    """A function among the wrong objects."""


def objects():
    """New objects of the built-in types and of classes of the interface, also such as cannot be hashed."""
    knot = []
    knot.append(knot)
    return [
        None, True, False, 0, 1, -1, 7, 10 ** 40, 1 + 2j, "", "*", "5", "a", "A", "abc", b"", b"a", bytearray(b"a"),
        memoryview(b"a"), [], [1], [[]], ["a"], (), (1,), ("a",), ((),), ([],), {}, {1: 2}, set(), {1}, {"a"},
        frozenset((1,)), range(3), slice(1), iter([1]), zip([1]), map(abs, [1]), enumerate([1]), object(), Ellipsis,
        NotImplemented, int, list, type, Folder, Folder(1), ValueError("x"), BadSet("x"), BadSet, plain_function,
        lambda: 1, (k for k in (1, 2)), {}.items(), {}.keys(), [].append, len, property(), staticmethod(len),
        Copy(1, 0, ()), Session(Folder(1)), Kept(("all",), Folder(1)), World(["a"], 1), World, Copy, knot, (knot,), {1: knot},
        type("Below", (str,), {}), range(10 ** 20), super(list, knot), classmethod(len), Exception(), complex(0, 1), __import__("sys"),
    ]


def is_whole(value, least):
    """Whether the value is an int from the least on, and no bool."""
    return type(value) is int and value >= least


def is_sign(value):
    """Whether the value is a sign."""
    return type(value) is str and 1 <= len(value) <= 8 and set(value) <= set("abcdefghijklmnopqrstuvwxyz")


def is_signs(value):
    """Whether the value is signs."""
    return type(value) is tuple and len(value) <= 6 and all(map(is_sign, value)) and list(value) == sorted(set(value))


def is_numbers(value):
    """Whether the value is a list or tuple of numbers."""
    return type(value) in (list, tuple) and all(is_whole(number, 1) for number in value)


def raised(call, *arguments):
    """The error that a call raises, as (its class's name, its field)."""
    try:
        call(*arguments)
    except ValueError as error:
        fields = [getattr(error, name) for name in ("value", "at", "why", "limit") if hasattr(error, name)]
        assert len(fields) == 1, (error, fields)
        return (error.__class__.__name__, fields[0])
    raise AssertionError("no error")
