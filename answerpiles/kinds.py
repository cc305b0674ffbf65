"""Small questions about values of any kind."""


def is_number(value, least, most):
    """Whether any value is an integer between two others."""
    # True and False are integers to Python, but not to this package.
    return isinstance(value, int) and not isinstance(value, bool) and least <= value <= most


def is_row(value):
    """Whether any value is a list or a tuple."""
    return isinstance(value, (list, tuple))


def is_one_of(value, words):
    """Whether any value is one of some texts."""
    return isinstance(value, str) and value in words
