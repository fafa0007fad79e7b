"""What kinds of values there are: the tests that many files need."""


def is_whole(value):
    """Whether a value is an integer; True and False are none, though Python counts them as such."""
    return isinstance(value, int) and not isinstance(value, bool)


def is_between(value, low, high):
    """Whether a value is an integer from low to high, both included."""
    return is_whole(value) and low <= value <= high


def is_list(value):
    """Whether a value may be passed as a list."""
    return isinstance(value, (list, tuple))


def are_between(value, low, high):
    """Whether a value is a list of integers from low to high, both included."""
    return is_list(value) and all([is_between(item, low, high) for item in value])


def are_different(numbers):
    """Whether no number stands twice in a list of integers."""
    return len(set(numbers)) == len(numbers)


def is_full_row(value, many):
    """Whether a value is a list of all integers from 0 on below many, each once, in any order."""
    return are_between(value, 0, many - 1) and len(value) == many and are_different(value)


def is_digits(text):
    """Whether a text consists of decimal digits and is not empty."""
    return text.isascii() and text.isdigit()


def read_pair(word, mark):
    """The tuple of the two numbers that a word has around a mark, or None for another word."""
    first, _, second = word.partition(mark)
    if not is_digits(first) or not is_digits(second):
        return None
    return (int(first), int(second))
