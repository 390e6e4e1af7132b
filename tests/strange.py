"""Values that are no whole numbers, no pairs and no lists, for the tests of refusals."""

GREAT = 10 ** 5000


class Thorny:
    """Fails at whatever it is asked."""

    def fail(self, *told):
        raise RuntimeError("asked")

    __eq__ = __ne__ = __lt__ = __le__ = __gt__ = __ge__ = fail
    __bool__ = __len__ = __iter__ = __getitem__ = __contains__ = fail
    __hash__ = __int__ = __index__ = __str__ = __repr__ = fail


class LikeOne:
    """Looks like the number 1, but is none."""

    def __int__(self):
        return 1

    __index__ = __hash__ = __int__

    def __eq__(self, other):
        return other == 1

    def __lt__(self, other):
        return 1 < other

    def __le__(self, other):
        return 1 <= other

    def __gt__(self, other):
        return 1 > other

    def __ge__(self, other):
        return 1 >= other


def no_numbers():
    """Pairs of a label and a value that is no number; made anew each time."""
    round_list = []
    round_list.append(round_list)
    return [
        ("None", None),
        ("True", True),
        ("False", False),
        ("...", ...),
        ("NotImplemented", NotImplemented),
        ("empty text", ""),
        ("text of a digit", "1"),
        ("text of two digits", "12"),
        ("empty bytes", b""),
        ("bytes", b"1"),
        ("bytes of two", b"\x01\x02"),
        ("bytearray", bytearray(b"\x01\x02")),
        ("memoryview", memoryview(b"\x01\x02")),
        ("empty list", []),
        ("list of one", [1]),
        ("list of two", [1, 2]),
        ("list in itself", round_list),
        ("empty tuple", ()),
        ("tuple of one", (1,)),
        ("tuple of a list", ([1, 2],)),
        ("empty dict", {}),
        ("dict", {1: 2, 2: 3}),
        ("empty set", set()),
        ("set", {1, 2}),
        ("frozenset", frozenset([1, 2])),
        ("range", range(1, 3)),
        ("iterator", iter([1, 2])),
        ("generator", (n for n in (1, 2))),
        ("function", lambda *told: 1),
        ("builtin", len),
        ("class", int),
        ("own class", Thorny),
        ("module", __import__("string")),
        ("error", ValueError("1")),
        ("object", object()),
        ("object that fails", Thorny()),
        ("object like 1", LikeOne()),
    ]
