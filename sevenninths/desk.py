"""Desks: a map that is led by lines, with deeds that can be undone, and questions."""

from sevenninths.checks import require_member
from sevenninths.errors import InvalidGroup, InvalidLine, NothingToUndo, Undefined, UnknownWord
from sevenninths.groups import Group
from sevenninths.grouptexts import NO_NUMBERS, joined
from sevenninths.homs import hom_from
from sevenninths.maps import broken, broken_share, nearest_homs, voted, votes, wrong_places
from sevenninths.ninths import close_hom, is_sure
from sevenninths.subsets import generators

_MOST_WRITTEN = 99


def _put(desk, values):
    """The map with another value at one place."""
    x, value = values
    require_member(desk.one, x)
    require_member(desk.other, value)
    return desk.table[:x] + (value,) + desk.table[x + 1:]


def _hom(desk, values):
    """The homomorphism that has the listed values at the generators."""
    told = hom_from(desk.one, desk.other, generators(desk.one), values[0])
    if told is None:
        raise Undefined("hom")
    return told


def _right(desk, values):
    """The homomorphism that is close to the map."""
    told = close_hom(desk.one, desk.other, desk.table)
    if told is None:
        raise Undefined("hom")
    return told


def _tell_broken(desk, values):
    """The number of broken pairs."""
    return str(broken(desk.one, desk.other, desk.table))


def _tell_share(desk, values):
    """The share of the broken pairs."""
    return broken_share(desk.one, desk.other, desk.table).written()


def _tell_sure(desk, values):
    """Whether fewer than two ninths of the pairs are broken."""
    if is_sure(desk.one, desk.other, desk.table):
        return "yes"
    return "no"


def _tell_vote(desk, values):
    """What is voted at a place."""
    require_member(desk.one, values[0])
    return str(voted(desk.one, desk.other, desk.table)[values[0]])


def _tell_votes(desk, values):
    """The votes at a place."""
    return joined(votes(desk.one, desk.other, desk.table, values[0]))


def _tell_wrong(desk, values):
    """The places at which the map is not the homomorphism that is close to it."""
    return joined(wrong_places(desk.table, _right(desk, values)))


def _tell_near(desk, values):
    """The greatest agreement with a homomorphism, and how many have it."""
    most, homs = nearest_homs(desk.one, desk.other, desk.table)
    return f"{most} {len(homs)}"


_DEEDS = {"put": _put, "hom": _hom, "right": _right}
_QUESTIONS = {"broken": _tell_broken, "share": _tell_share, "sure": _tell_sure, "vote": _tell_vote,
              "votes": _tell_votes, "wrong": _tell_wrong, "near": _tell_near}
# The forms of the words that stand behind the first word of a line.
_FORMS = {"put": ("number", "number"), "hom": ("list",), "right": (), "broken": (), "share": (), "sure": (),
          "vote": ("number",), "votes": ("number",), "wrong": (), "near": (), "undo": (), "redo": ()}


class Desk:
    """A map of (one, other) that is led by lines."""

    def __init__(self, one, other):
        if not isinstance(one, Group):
            raise InvalidGroup("desk", 0)
        if not isinstance(other, Group):
            raise InvalidGroup("desk", 1)
        self.one = one
        self.other = other
        self.table = (other.neutral,) * one.size
        self.lines = ()
        # The maps ahead of each deed that stands, and the lines and maps of those that can be done again.
        self._former = []
        self._undone = []

    def run(self, line):
        """Do the deed or answer the question of the line."""
        word, values = _read_line(line)
        if word in _QUESTIONS:
            question = _QUESTIONS[word]
            return question(self, values)
        if word == "undo":
            self._undo()
        elif word == "redo":
            self._redo()
        else:
            deed = _DEEDS[word]
            self._stand(line, deed(self, values))
            self._undone = []
        return joined(self.table)

    def _stand(self, line, table):
        """Let a deed stand that leads to this map."""
        self._former.append(self.table)
        self.table = table
        self.lines = self.lines + (line,)

    def _undo(self):
        """Take back the last deed that stands."""
        if len(self.lines) == 0:
            raise NothingToUndo("undo")
        self._undone.append((self.lines[-1], self.table))
        self.table = self._former.pop()
        self.lines = self.lines[:-1]

    def _redo(self):
        """Let the deed stand again that was undone last."""
        if len(self._undone) == 0:
            raise NothingToUndo("redo")
        line, table = self._undone.pop()
        self._stand(line, table)


def is_deed(line):
    """Whether the line's word is that of a deed."""
    return line.partition(" ")[0] in _DEEDS


def _read_line(line):
    """The word of a line, and the values of its further words."""
    words = line.split(" ")
    word = words[0]
    if word not in _FORMS:
        raise UnknownWord(word)
    forms = _FORMS[word]
    values = []
    at = len(word) + 1
    for place, further in enumerate(words[1:]):
        value = None
        if place < len(forms):
            value = _read_word(forms[place], further)
        if value is None:
            raise InvalidLine(line, at)
        values.append(value)
        at = at + len(further) + 1
    if len(values) < len(forms):
        raise InvalidLine(line, len(line))
    return (word, tuple(values))


def _read_word(form, word):
    """The integer or the tuple of integers that a word tells, or None if it is not of its form."""
    # Looked up as they are written, so a needless 0, a plus or a foreign figure is refused.
    written = {str(number): number for number in range(-_MOST_WRITTEN, _MOST_WRITTEN + 1)}
    if form == "number":
        return written.get(word, None)
    if word == NO_NUMBERS:
        return ()
    members = word.split(",")
    if not all([member in written for member in members]):
        return None
    return tuple([written[member] for member in members])


def replayed_desk(one, other, lines):
    """A desk on which the lines were run in their order."""
    desk = Desk(one, other)
    for line in lines:
        desk.run(line)
    return desk
