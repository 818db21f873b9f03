"""Names."""

MOST_NAME_LETTERS = 12


def is_name(value):
    """Whether a value is a name."""
    if not isinstance(value, str) or len(value) < 1 or len(value) > MOST_NAME_LETTERS:
        return False
    return all([letter >= "a" and letter <= "z" for letter in value])
