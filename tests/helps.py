"""Small helps for tests."""

import contextlib

ODD = [
    None, True, False, 0, 1, 2, -1, 7, 10 ** 30, 1.0, 0.5, "", "a", "A", "ab c", "first", b"a",
    [], (), {}, [()], ((),), [None], (None,), [[]], ({},), {"a": 1}, {1: 1}, {(): ()}, set(),
    frozenset(), object(), len, [1, "a"], (0, 0), (True,), [{}], [{}, {}], [{}, {}, {}],
    ("done", "steps", (), ()), ("lay", 0, "a", None, ()),
]


def odd_but(*allowed):
    """Values of many kinds and forms without those that are allowed."""
    found = []
    for value in ODD:
        if not any(same(value, one) for one in allowed):
            found.append(value)
    return found


def same(one, other):
    """Whether two values are equal and of one kind (1 and True are not)."""
    return isinstance(one, type(other)) and isinstance(other, type(one)) and one == other




@contextlib.contextmanager
def raises(test, kind, field, value):
    """The block raises an error of just this kind, whose field is this very value."""
    try:
        yield
    except kind as error:
        test.assertIs(type(error), kind)
        told = getattr(error, field)
        test.assertTrue(told is value or same(told, value), (told, value))
    else:
        test.fail(f"no {kind.__name__} with {field} {value!r}")
