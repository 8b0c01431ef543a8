"""What is handed in and to be refused, of many kinds."""


class Refuser:
    """Something that can be neither compared nor counted nor gone through."""

    __hash__ = None

    def refuse(self, *told):
        raise RuntimeError("asked")

    __eq__ = __lt__ = __le__ = __gt__ = __ge__ = __len__ = __iter__ = __bool__ = __index__ = __contains__ = refuse


NO_NUMBERS = (True, False, None, 0.0, 1.0, float("nan"), 0j, "0", "", b"0", (), (0,), [], [0], {}, {0: 0}, set(), {0},
              object(), Refuser(), int, len)

KNOT = []
KNOT.append(KNOT)

DEEP = []
for level in range(100000):
    DEEP = [DEEP]

HUGE = 10 ** 5000

# By name, since some of them can't be written out.
NO_GROUPINGS = {
    "None": None,
    "True": True,
    "False": False,
    "a number": 0,
    "another number": 3,
    "a number of many digits": HUGE,
    "a fraction": 1.5,
    "not a number": float("nan"),
    "no text": "",
    "a text": "[[0]]",
    "no bytes": b"",
    "bytes": b"\x00",
    "an empty tuple": (),
    "a tuple of lists": ([0],),
    "a tuple of tuples": ((0,), (1,)),
    "an empty dict": {},
    "a dict": {0: [0]},
    "an empty set": set(),
    "a set": {0},
    "a frozen set": frozenset({0}),
    "an empty range": range(0),
    "a range": range(3),
    "bytes that change": bytearray(b"\x00"),
    "an object": object(),
    "what can't be asked": Refuser(),
    "a class": list,
    "a function": len,
    "a list of a number": [0],
    "a list of numbers": [0, 1, 2],
    "a list of None": [None],
    "a list of a text": ["0"],
    "a list of bytes": [b"\x00"],
    "a list of a tuple": [(0,)],
    "a list of a list and a tuple": [[0], (1,)],
    "a list of a set": [{0}],
    "a list of a dict": [{0: 0}],
    "a list of a range": [range(2)],
    "a list of an object": [Refuser()],
    "a list within itself": KNOT,
    "a list of a list within itself": [KNOT],
    "lists within lists": [[[0]]],
    "lists within lists without end": DEEP,
    "True for 1": [[0, True]],
    "False for 0": [[False]],
    "False and True": [[False], [True]],
    "True for 1 in a group of its own": [[0], [True]],
    "None for a thing": [[0, None]],
    "a fraction for a thing": [[0, 1.0]],
    "a text for a thing": [[0, "1"]],
    "a list for a thing": [[0, [1]]],
    "an object for a thing": [[0, Refuser()]],
    "below 0": [[-1]],
    "below 0 beside others": [[-1, 0], [1]],
    "far below 0": [[-HUGE, 0]],
    "beyond": [[0, 60]],
    "far beyond": [[0, HUGE]],
    "0 missing": [[1]],
    "1 missing": [[0, 2]],
    "1 missing between groups": [[0], [2]],
    "twice in a group": [[0, 0]],
    "twice in two groups": [[0], [0]],
    "twice in two groups of several": [[0, 1], [1, 2]],
    "things falling": [[1, 0]],
    "things out of order": [[0, 2, 1]],
    "groups falling": [[1], [0]],
    "groups out of order": [[0], [2], [1]],
    "groups out of order with several": [[1, 2], [0]],
    "a group without things": [[]],
    "a group without things first": [[], [0]],
    "a group without things between": [[0], [], [1]],
    "a group without things last": [[0], []],
    "61 things together": [list(range(61))],
    "61 things alone": [[thing] for thing in range(61)],
    "61 things in two groups": [list(range(0, 61, 2)), list(range(1, 61, 2))],
    "1000 things": [[thing] for thing in range(1000)],
    "a group said very often": [list(range(60))] * 10 ** 6,
    "a thing said very often": [[0] * 10 ** 6],
}

NO_COUNTS = (*NO_NUMBERS, -1, -2, -60, -HUGE)
