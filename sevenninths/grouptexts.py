"""Groups as texts, a line for the size and a line for each row."""

from sevenninths.errors import InvalidGroup, InvalidText
from sevenninths.groups import MOST_MEMBERS, Group


def write_group(group):
    """The text of the group's table."""
    rows = [",".join([str(value) for value in row]) for row in group.table]
    return "\n".join([f"group {group.size}", *rows])


def read_group(text):
    """The group whose text this is."""
    lines = text.split("\n")
    size = _told_size(lines[0])
    if size is None:
        raise InvalidText(text, 0)
    rows = []
    start = len(lines[0]) + 1
    for line in lines[1:]:
        row = _told_row(line, size)
        if row is None or len(rows) == size:
            raise InvalidText(text, start)
        rows.append(row)
        start = start + len(line) + 1
    if len(rows) < size:
        raise InvalidText(text, len(text))
    try:
        return Group(rows)
    except InvalidGroup:
        raise InvalidText(text, 0) from None


def _told_size(line):
    """The size that the first line tells, or None if it is not of its form."""
    for size in range(1, MOST_MEMBERS + 1):
        if line == f"group {size}":
            return size
    return None


def _told_row(line, size):
    """The numbers below size that a row's line tells, or None if it is not of its form."""
    # Looked up as they are written, so a needless 0, a sign or a foreign figure is refused.
    numbers = {str(number): number for number in range(size)}
    words = line.split(",")
    if len(words) != size or not all([word in numbers for word in words]):
        return None
    return [numbers[word] for word in words]
