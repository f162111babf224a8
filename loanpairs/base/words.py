"""Integers, names, fields and parts."""

from loanpairs.errors import InvalidWord

MAX_LETTERS = 8
MAX_FIELDS = 4
KINDS = ("full", "look", "own")
KEYWORDS = (
    "call", "copy", "def", "drop", "fields", "full", "lend", "look",
    "move", "new", "own", "put", "return", "skip", "take", "touch",
)
LETTERS = "abcdefghijklmnopqrstuvwxyz"
DIGITS = "0123456789"
MAX_DIGITS = 60


def is_integer(value):
    """Whether the value is an integer of at most sixty digits."""
    if isinstance(value, bool) or not isinstance(value, int):
        return False
    return abs(value) < 10 ** 60


def is_index(value, many):
    """Whether the value is an index of a sequence of so many items."""
    return is_integer(value) and 0 <= value < many


def is_number_text(value):
    """Whether the value is the text of an integer of at least 0."""
    if not isinstance(value, str) or not 1 <= len(value) <= MAX_DIGITS:
        return False
    if value[0] == "0" and value != "0":
        return False
    return all([digit in DIGITS for digit in value])


def is_name(value):
    """Whether the value is a name."""
    if not isinstance(value, str) or not 1 <= len(value) <= MAX_LETTERS:
        return False
    return value not in KEYWORDS and all([letter in LETTERS for letter in value])


def do_ascend(values):
    """Whether the items of a list or tuple ascend strictly."""
    return all([value < other for value, other in zip(values, values[1:])])


def are_different_names(values):
    """Whether all items of a list or tuple are names, none of them twice."""
    return all([is_name(value) for value in values]) and len(set(values)) == len(values)


def is_fields(value):
    """Whether the value is a tuple of one to four different names."""
    if not isinstance(value, tuple) or not 1 <= len(value) <= MAX_FIELDS:
        return False
    return are_different_names(value)


def is_part(fields, value):
    """Whether the value is a part if these are the fields."""
    if not is_fields(fields):
        raise InvalidWord("fields are one to four different names")
    return value == "" or value in fields


def is_any_part(value):
    """Whether the value is a part for some fields."""
    return value == "" or is_name(value)


def do_overlap(one, other):
    """Whether two parts overlap."""
    if not is_any_part(one) or not is_any_part(other):
        raise InvalidWord("a part is empty or a name")
    return one == other or one == "" or other == ""
