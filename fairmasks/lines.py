"""Lines that a keeper writes, each by itself."""

from fairmasks.programs import is_number, is_number_in
from fairmasks.rows import MOST_COLUMNS, MOST_SIZE, is_pattern


def is_line(thing):
    """Whether a thing is a line of any keeper."""
    if not isinstance(thing, tuple) or not thing or not isinstance(thing[0], str):
        return False
    kind = thing[0]
    if kind in ("row", "throw"):
        return len(thing) == 2 and is_number(thing[1])
    if kind == "open" and len(thing) == 3:
        return is_number_in(thing[1], 0, MOST_COLUMNS - 1) and is_number_in(thing[2], 0, MOST_SIZE - 1)
    return kind == "show" and len(thing) == 2 and is_pattern(MOST_COLUMNS, thing[1])
