"""Values that are wrong in one part: every part, at any depth, exchanged, left out, put in, turned round or changed."""

ODD = (
    None, True, False, -1, 0, 1, 2, 9, 10 ** 61, "", "ring", "case", "0", (), [], {}, (0,), [0, 1], (0, 1), (1, 0),
    (0, 1, 1), {"a": [1]}, ((0, 1, 1),), ("stuck", 1), ("ring", ()),
)


def nested(depth, empty):
    """A value so many levels deep, of dictionaries, lists and tuples in turn."""
    value = empty
    for k in range(depth):
        value = {"deep": value} if k % 3 == 0 else [value] if k % 3 == 1 else (value,)
    return value


def values_of_every_kind():
    """Values that are nothing that the package knows."""
    found = list(ODD)
    found += ["mine", [[]], [()], ((),), (None,), (True, False), ({},), ("",), 10 ** 400, -(10 ** 400)]
    for empty in ((), [], {}, None, 0, ""):
        found.append(nested(95, empty))
        found.append((nested(95, empty),))
        found.append((nested(90, empty), nested(91, empty), nested(92, empty)))
    return found


def long_values():
    """Values with many parts."""
    many = 100000
    return [(0,) * many, "x" * many, [0] * many, ((0, 1),) * many, ((0, 1, 1),) * many, {"a": [None] * many}]


def variants(value, others=ODD):
    """All values that differ from the value in one part."""
    yield from (other for other in others if type(other) is not type(value) or other != value)
    if type(value) is int:
        yield from (value + 1, value - 1, -value, str(value), [value], (value,))
        yield from (flag for flag in (True, False) if flag == value)
    if type(value) is str:
        yield from (value + " ", value[:-1], value.upper(), (value,), [value])
    if type(value) is tuple:
        yield from tuple_variants(value, others)


def tuple_variants(value, others):
    yield list(value)
    yield value + (None,)
    yield value + value
    yield value[::-1]
    yield (value,)
    yield dict(enumerate(value))
    for k in range(len(value)):
        yield value[:k] + value[k + 1:]
        yield value[:k] + value[k:k + 1] + value[k:]
        if k:
            yield value[:k - 1] + (value[k], value[k - 1]) + value[k + 1:]
        for part in variants(value[k], others):
            yield value[:k] + (part,) + value[k + 1:]
