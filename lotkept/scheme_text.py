"""Schemes as texts."""

from lotkept.errors import InvalidText
from lotkept.numerals import number_of
from lotkept.schemes import is_scheme


def format_scheme(scheme):
    """Return the text of a scheme."""
    prime, servers, clients, observers, faults = scheme
    lines = [f"prime {prime}", _line("servers", servers), _line("clients", clients)]
    lines.extend([_line("observe", names) for names in observers])
    lines.extend([_line("fault", names) for names in faults])
    return "\n".join(lines)


def parse_scheme(text):
    """Return the scheme of which any value is the text, whether it supports storage or not."""
    if not isinstance(text, str):
        raise InvalidText("the text of a scheme is not a string")
    scheme = _read_scheme(text)
    # The text is read loosely, and then it must be the very text of what was read.
    if not is_scheme(scheme) or format_scheme(scheme) != text:
        raise InvalidText("the text is not that of a scheme")
    return scheme


def _line(word, names):
    return " ".join([word, *names])


def _read_scheme(text):
    """Return what the lines of a text say, which is a scheme if it is the text of one."""
    rows = [line.split(" ") for line in text.split("\n")]
    if len(rows) < 3:
        return None
    return (
        number_of(rows[0][-1]), tuple(rows[1][1:]), tuple(rows[2][1:]),
        _named_sets("observe", rows[3:]), _named_sets("fault", rows[3:]),
    )


def _named_sets(word, rows):
    return tuple(tuple(row[1:]) for row in rows if row[0] == word)
