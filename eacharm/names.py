"""Which words are names of programs and schemes."""

RESERVED = ("true", "false", "hole", "int", "bool", "else")
SMALL = "abcdefghijklmnopqrstuvwxyz"
CAPITALS = "ABCDEFGHIJKLMNOPQRSTUVWXYZ"
FIGURES = "0123456789"


def is_name(word):
    """Tells whether a word is a name or a label."""
    if not 1 <= len(word) <= 8 or word in RESERVED or word[0] not in SMALL:
        return False
    return consists_of(word, SMALL + FIGURES)


def consists_of(word, signs):
    """Tells whether all signs of a word are among the given ones."""
    return all([sign in signs for sign in word])
