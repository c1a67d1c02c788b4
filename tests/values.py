"""Values of all kinds that may be handed in wherever the document lets any value come."""

from narrowadds import errors


def nested(deep, around):
    """Return a value that is nested so deep by around."""
    value = 0
    for _ in range(deep):
        value = around(value)
    return value


def other_values():
    """Return values, made anew, none of which is a machine, contents of one, or a text of one."""
    return [
        None, True, False, 0, 1, 2, -1, 10 ** 399, -(10 ** 399), "", " ", ":", "a", "8 4", "machine", "9" * 20000,
        "\n", (), (()), ((),), ((), ()), ((), (), ()), [], [[], []], {}, {0: 1}, {"sizes": (8,), "wires": ()},
        {(8, 4): ()}, [(8, 4), ()], ("84", ""), ("8", "4"), (None, None), (True, False), (8, 4), ((8, 4),),
        {0: (8, 4), 1: ()}, ([8, 4], ()), ((8, 4), []), ((8, 4), None), ((8, 4), {}), ((8, 4), ""), (None, ()),
        ((8, 4), (), ()), nested(19, lambda part: (part,)), nested(19, lambda part: [part]),
        nested(19, lambda part: {"a": part}), nested(19, lambda part: ((), part)), (0,) * 3999, [0] * 3999,
        errors.BadText(), errors.NoName((8, 4)), errors.Barred(("entry", 0, 1)),
    ]
