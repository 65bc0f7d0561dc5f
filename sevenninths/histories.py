"""Histories of desks: texts that tell each deed and what was so behind it, and the check of such texts."""

from sevenninths.desk import Desk, is_deed
from sevenninths.errors import InvalidGroup, InvalidText, NinthError
from sevenninths.groups import Group
from sevenninths.grouptexts import joined, line_start, read_rows, write_group
from sevenninths.maps import broken
from sevenninths.ninths import close_hom

_MOST_MEMBERS = 24


def history_of(desk):
    """The text of the desk's groups and of the deeds that stand."""
    replayed = Desk(desk.one, desk.other)
    lines = [write_group(desk.one), write_group(desk.other)]
    for line in desk.lines:
        replayed.run(line)
        lines.append(line)
        lines.extend(_lines_behind(replayed))
    return "\n".join(lines)


def _lines_behind(desk):
    """The lines that stand behind the line of a deed, for the map as it is now."""
    close = close_hom(desk.one, desk.other, desk.table)
    told = "none"
    if close is not None:
        told = joined(close)
    return [f"broken {broken(desk.one, desk.other, desk.table)}", f"hom {told}"]


def history_holds(text):
    """Whether the text is the history of some desk with groups of at most 24 elements."""
    try:
        history_end(text)
    except InvalidText:
        return False
    return True


def history_end(text):
    """The map at the end of a history."""
    lines = text.split("\n")
    one = _read_group(text, lines, 0)
    other = _read_group(text, lines, one.size + 1)
    desk = Desk(one, other)
    for number in range(one.size + other.size + 2, len(lines), 3):
        fault = _led_to_fault(desk, lines, number)
        if fault is not None:
            raise InvalidText(text, line_start(lines, fault))
    return desk.table


def _read_group(text, lines, first):
    """The group whose lines begin with line first."""
    rows, fault = read_rows(lines, first, _MOST_MEMBERS)
    if fault is not None:
        raise InvalidText(text, line_start(lines, fault))
    try:
        return Group(rows)
    except InvalidGroup:
        raise InvalidText(text, line_start(lines, first)) from None


def _led_to_fault(desk, lines, number):
    """Run the deed of this line on the desk; the number of the first wrong one of its lines, or None."""
    if not _does_deed(desk, lines[number]):
        return number
    for place, told in enumerate(_lines_behind(desk), start=number + 1):
        if place == len(lines) or lines[place] != told:
            return place
    return None


def _does_deed(desk, line):
    """Run the line if it is that of a deed; whether it did one."""
    if not is_deed(line):
        return False
    try:
        desk.run(line)
    except NinthError:
        return False
    return True
