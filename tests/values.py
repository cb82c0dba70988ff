"""Values of many kinds, for functions that take a value of any kind."""


class Other:
    """An object of a class that the program does not know."""


ODD_VALUES = (
    None, True, False, 0, 1, 2, 3, -1, 255, 256, 10 ** 30, 0.0, 1.0, 2.0, 1j,
    "", "a", "ab", "12", b"", b"a", b"ab", bytearray(b"ab"),
    [], [1], [0, 1], [2], ["a"], [None], [[]],
    (), (1,), (True,), (2.0,), ("2",), (None,), ([],), ((),), ((2,),),
    (0, 1), (1, 2), (1, 2, 3), (1, 2, 3, 4), (None, None), ("a", "b"), ("a", "b", "c"),
    {}, {1: 2}, {0: 1, 1: 2}, set(), {1, 2}, frozenset((1, 2)), range(2),
    Other, Other(), len,
)
