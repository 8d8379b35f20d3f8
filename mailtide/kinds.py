"""What an integer, a number, a body, a mark, a sign and signs are, and how signs stand in a line."""

MOST_SIGNS = 6
LONGEST_SIGN = 8


def is_integer(value):
    """Whether the value is an integer; True and False are none."""
    return isinstance(value, int) and not isinstance(value, bool)


def is_number(value):
    """Whether the value is a number, or an age."""
    return is_integer(value) and value >= 1


def is_body(value):
    """Whether the value is a body."""
    return is_integer(value) and value >= 0


def is_mark(value):
    """Whether the value is a mark."""
    return is_integer(value) and value >= 0


def is_sign(value):
    """Whether the value is a sign."""
    if not isinstance(value, str) or not 1 <= len(value) <= LONGEST_SIGN:
        return False
    return all(["a" <= letter <= "z" for letter in value])


def is_signs(value):
    """Whether the value is an ascending tuple of signs, none twice and not too many."""
    if not isinstance(value, tuple) or len(value) > MOST_SIGNS:
        return False
    ahead = ""
    for sign in value:
        if not is_sign(sign) or sign <= ahead:
            return False
        ahead = sign
    return True


def is_numbers(value):
    """Whether the value is a list or tuple of numbers, in any order."""
    return isinstance(value, (list, tuple)) and all([is_number(number) for number in value])


def is_ascending(numbers):
    """Whether each of these numbers is greater than the one ahead of it."""
    return all([one < other for one, other in zip(numbers, numbers[1:])])


def signs_text(signs):
    """How signs stand in a line."""
    return ",".join(signs) if signs else "-"
