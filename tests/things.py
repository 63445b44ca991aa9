"""Things of all kinds that may be handed to what takes any thing."""


def wrapped(thing, deep, wrap):
    """A thing within so many tuples or lists."""
    for _ in range(deep):
        thing = wrap([thing])
    return thing


def no_tuples():
    """Things that are no tuples: no record, no program, nothing made of tuples."""
    return [
        None, True, False, 0, 1, -1, 7, 9999, 10 ** 30, -10 ** 30,
        "", "a", "set", "abc def", "\n", "\u00e4",
        [], [1], [[1]], [None, True, "a"], [("mark",)], [(1,)],
        wrapped(1, 6, list), wrapped("a", 6, list), [wrapped(1, 5, tuple)],
    ]


def odd_tuples():
    """Tuples that are no record, no tuple of records and no program."""
    return [
        (None,), (True,), (False,), ("",), ("a",), ("set",), ([],), ([1],), (-1,),
        (1, None), (1, "1"), (1, True), (1, [1]), (1, -1), (1, (1,)), (10 ** 30,),
        ((1,), 1), ((1,), None), ((1,), "a"), ((1,), True), ((1,), [1]), ((1,), ()),
        ((),), ([],), ((None,),), ((True,),), (("a",),), (([1],),), (((1,),),),
        wrapped(1, 6, tuple), wrapped("a", 6, tuple), wrapped(None, 6, tuple),
        wrapped(True, 6, tuple), (wrapped(1, 5, list),), wrapped((), 6, tuple),
    ]
