"""The lines of looks."""

from looksleft.checks import is_digits
from looksleft.errors import InvalidLine, InvalidLots
from looksleft.looks import Look


def look_line(look):
    """The line of a look, which read_look reads."""
    lots = " |".join(["".join([f" {write}" for write in lot]) for lot in look.lots])
    moment = "" if look.moment is None else f" @ {look.moment}"
    return f"{look.house}:{lots}{moment}"


def read_look(line):
    """The look that has this line."""
    look = _told_look(line)
    # The words are read loosely; that the look has this very line decides.
    if look is None or look_line(look) != line:
        raise InvalidLine(line)
    return look


def _told_look(line):
    house, _, rest = line.partition(":")
    told, mark, moment = rest.partition(" @ ")
    lots = [lot.split() for lot in told.split("|")] if told else []
    if not all([is_digits(word) for word in [house] + [word for lot in lots for word in lot]]):
        return None
    if mark and not _is_number(moment):
        return None
    try:
        return Look(int(house), [[int(word) for word in lot] for lot in lots], moment=int(moment) if mark else None)
    except InvalidLots:
        return None


def _is_number(text):
    return is_digits(text[1:] if text.startswith("-") else text)
