"""Whether all copies show the same when all is finished, told by the answers of a few houses or by one house alone."""

from looksleft.ahead import behind_books
from looksleft.checks import are_different, is_full_row, is_list
from looksleft.errors import Alone, InvalidAnswers, InvalidBook
from looksleft.looks import Look
from looksleft.running import last_of_cells
from looksleft.stores import check_written, is_write, made_in, written
from looksleft.tables import all_tables
from looksleft.trees import check_house, way


def is_answers(store, cell, value):
    """Whether a value is answers of houses that some table of the cell gives."""
    check_written(store, cell)
    if not is_list(value) or not all([_is_answer(store, item) for item in value]):
        return False
    return are_different([house for house, _ in value]) and len(_tables_with(store, cell, value)) > 0


def _is_answer(store, value):
    """Whether a value is a tuple of a house and a write."""
    return isinstance(value, tuple) and len(value) == 2 and value[0] in store.tree and is_write(store, value[1])


def _tables_with(store, cell, answers):
    """All tables of the cell that give these answers."""
    return [table for table in all_tables(store, cell) if all([table[house] == write for house, write in answers])]


def _check_answers(store, cell, answers):
    if not is_answers(store, cell, answers):
        raise InvalidAnswers(answers)


def verdict_of(store, cell, answers):
    """Whether by these answers all copies surely show the same, or surely not all; None if both can be."""
    _check_answers(store, cell, answers)
    alike = [len(set(table)) == 1 for table in _tables_with(store, cell, answers)]
    if all(alike):
        return "alike"
    return None if any(alike) else "parted"


def next_ask(store, cell, answers):
    """The house to ask next, or None if the answers are enough."""
    if verdict_of(store, cell, answers) is not None:
        return None
    # Two different answers would have told that the copies are parted, so that all answers are the same write.
    return store.homes[answers[0][1]] if answers else 0


def alone(store, house, book, cell):
    """Whether by the book of one house the copies of all houses surely show the same write of the cell."""
    _check_told(store, house, book, cell)
    return not _unseen_ones(store, house, book, cell)


def _check_told(store, house, book, cell):
    check_house(store.tree, house)
    if not _is_book(store, book):
        raise InvalidBook(book)
    check_written(store, cell)


def _is_book(store, value):
    """Whether a value is a list of all writes, those of one home ascending."""
    if not is_full_row(value, len(store)):
        return False
    return all([[write for write in value if store.homes[write] == home] == made_in(store, home)
                for home in range(store.tree.houses)])


def _unseen_ones(store, house, book, cell):
    """The writes of the cell that need not have come to the home of the cell's last write in a book ahead of it."""
    home = store.homes[last_of_cells(store, book)[cell]]
    return [write for write in written(store, cell) if home not in way(store.tree, house, store.homes[write])]


def parted_books(store, house, book, cell):
    """Books of a history in which the house has this book, behind which not all copies show the same of the cell."""
    _check_told(store, house, book, cell)
    last = last_of_cells(store, book)[cell]
    unseen = _unseen_ones(store, house, book, cell)
    if not unseen:
        raise Alone(last)
    # The house shows the last write, and the home of this write another one, which comes behind it there.
    look = Look(house, [[write] for write in book])
    return behind_books(store, [look], store.homes[last], unseen[0], last)
