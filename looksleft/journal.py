"""Desks from their lines."""

from looksleft.checks import is_list
from looksleft.desk import Desk
from looksleft.errors import DoNotFit, Full, InvalidLine, InvalidLines, InvalidLook
from looksleft.lines import read_look
from looksleft.stores import read_store


def read_desk(lines):
    """The desk that has these lines, with nothing that can be taken back or done again."""
    if not is_list(lines) or len(lines) == 0 or not all([isinstance(line, str) for line in lines]):
        raise InvalidLines(lines)
    desk = Desk(read_store(lines[0]))
    for line in lines[1:]:
        _add_line(desk, line)
    desk.forget()
    return desk


def _add_line(desk, line):
    try:
        desk.add(read_look(line))
    except (InvalidLook, Full, DoNotFit):
        raise InvalidLine(line) from None
