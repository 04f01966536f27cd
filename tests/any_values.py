"""Values of every kind that a function with a parameter `thing` must accept."""


def nested(depth, wrap):
    thing = 0
    for _ in range(depth):
        thing = wrap(thing)
    return thing


ATOMS = (
    None, True, False,
    0, 1, -1, 2, 7, 997, 10**40 - 1, -(10**40 - 1),
    "", "a", "abcdef", "abcdefg", "A", "a b", "a\n", "\n", " ", "~", "0", "7", "x" * 2000,
)

STRUCTURES = (
    (), ((),), (((),),), ("a",), ("a", "b"), ("b", "a"), ("a", "a"), (None,), (True, False), (1, 2), (1, "a"),
    [], [[]], ["a"], ["a", "b"], [("a",)], [None, True, 3],
    {}, {"a": "b"}, {"a": ("b",)}, {1: 2, None: [True]}, {("a",): {}},
    (["a"],), ({"a": 1},), ("a", ["b"]), ("a", {"b": ()}), ("a", None), (("a",), ("b",)), (("a",), "b"),
    nested(30, lambda thing: (thing,)), nested(30, lambda thing: [thing]), nested(30, lambda thing: {"a": thing}),
    nested(30, lambda thing: ("a", [thing])),
    (0,) * 4000, ("a",) * 4000, [0] * 4000, {number: "a" for number in range(2000)},
)


def any_values():
    return ATOMS + STRUCTURES
