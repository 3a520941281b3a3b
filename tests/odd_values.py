"""Values of many kinds, none of which is a name, a word or a value that a test asks for."""


class Alike:
    """Tells of itself that it is equal to everything."""

    def __eq__(self, other):
        return True

    def __hash__(self):
        return hash("cell")


class Touchy:
    """Can neither be compared nor be a key."""

    def __eq__(self, other):
        raise ArithmeticError("compared")

    def __hash__(self):
        raise ArithmeticError("hashed")


def odd_values():
    return [
        None, True, False, 0, 1, -1, 10 ** 50, 1.5, "", " ", "A", "Look", "look ", "no such word",
        "abcdefghi", "a1", "a_b", "a b", b"look", b"", [], ["look"], ["a"], (), ("look",), ("a", "b", "c"),
        (None,), ((),), {}, {"a": ()}, set(), {"a"}, frozenset(), object(), object, len, range(2),
        Alike(), Touchy(), (Alike(),), (Alike(), Alike()), (Touchy(), Touchy()), [Touchy()],
        ("a", Alike()), (Alike(), "a"),
    ]
