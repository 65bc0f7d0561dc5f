"""Groups as texts, a line for the size and a line for each row."""

from sevenninths.errors import InvalidGroup, InvalidText
from sevenninths.groups import MOST_MEMBERS, Group

NO_NUMBERS = "-"


def joined(numbers):
    """The numbers as a text, or a sign for none of them."""
    if len(numbers) == 0:
        return NO_NUMBERS
    return ",".join([str(number) for number in numbers])


def write_group(group):
    """The text of the group's table."""
    return "\n".join([f"group {group.size}", *[joined(row) for row in group.table]])


def read_group(text):
    """The group whose text this is."""
    lines = text.split("\n")
    rows, fault = read_rows(lines, 0, MOST_MEMBERS)
    if fault is None and len(lines) > len(rows) + 1:
        fault = len(rows) + 1
    if fault is not None:
        raise InvalidText(text, line_start(lines, fault))
    try:
        return Group(rows)
    except InvalidGroup:
        raise InvalidText(text, 0) from None


def read_rows(lines, first, most):
    """The rows of the table of at most so many elements whose lines begin with line first, and None.

    If they are not of this form, it is None and the number of the first wrong line, or the number
    of all lines if it is lines that are lacking.
    """
    if first == len(lines):
        return (None, first)
    size = _told_size(lines[first], most)
    if size is None:
        return (None, first)
    rows = []
    for number in range(first + 1, first + size + 1):
        row = None
        if number < len(lines):
            row = _told_row(lines[number], size)
        if row is None:
            return (None, number)
        rows.append(row)
    return (rows, None)


def line_start(lines, number):
    """The place in the text of the lines at which a line begins, or the text's length behind the last line."""
    start = sum([len(line) + 1 for line in lines[:number]])
    if number == len(lines):
        # The last line has no line feed behind it.
        return start - 1
    return start


def _told_size(line, most):
    """The size that the first line tells, or None if it is not of its form or the size is above most."""
    for size in range(1, most + 1):
        if line == f"group {size}":
            return size
    return None


def _told_row(line, size):
    """The numbers below size that a row's line tells, or None if it is not of its form."""
    # Looked up as they are written, so a needless 0, a sign or a foreign figure is refused.
    numbers = {str(number): number for number in range(size)}
    words = line.split(",")
    if len(words) != size or not all([word in numbers for word in words]):
        return None
    return [numbers[word] for word in words]
