"""Names: texts of one to eight of the letters a to z."""


def is_name(thing):
    """Whether a thing, whatever it is, is a name."""
    if not isinstance(thing, str) or not 1 <= len(thing) <= 8:
        return False
    return all(["a" <= letter <= "z" for letter in thing])
