"""The commands of the console: words that are separated by one blank."""

from lotkept.errors import InvalidText
from lotkept.numerals import number_of
from lotkept.operations import ROLES
from lotkept.party_sets import is_name

LONGEST_WORD = 10

# What each word behind the first one of a command is, for the commands that are not operations.
FORMS = {
    "exposed": (),
    "disputes": (),
    "keys": (),
    "expect": ("name",),
    "rounds": (),
    "send": ("number", "name", "recipient", "word"),
    "silence": ("number", "name"),
}


def parse_command(line):
    """Return the first word of any value that is a command, and what its other words stand for."""
    if not isinstance(line, str):
        raise InvalidText("a command is not a string")
    words = line.split(" ")
    if words[0] not in ROLES and words[0] not in FORMS:
        raise InvalidText("a command begins with an unknown word")
    forms = _forms_of(words)
    if len(forms) != len(words) - 1:
        raise InvalidText("a command has another number of words")
    return words[0], tuple(_meaning(form, word) for form, word in zip(forms, words[1:]))


def _forms_of(words):
    """Return what each word behind the first one has to be."""
    if words[0] in ROLES:
        return tuple("number" if role == "value" else "name" for role in ROLES[words[0]])
    forms = FORMS[words[0]]
    if words[0] == "send":
        # The payload may have any number of parts.
        return forms + ("part",) * (len(words) - 1 - len(forms))
    return forms


def _meaning(form, word):
    """Return what a word of a form stands for."""
    if form == "number":
        found = number_of(word)
    elif form == "part":
        found = _part(word)
    elif form == "recipient" and word == "-":
        found = ""
    elif form == "word":
        found = word if _is_word(word) else None
    else:
        found = word if is_name(word) else None
    if found is None:
        raise InvalidText("a word of a command does not have its form")
    return found


def _is_word(word):
    return 1 <= len(word) <= LONGEST_WORD and all("a" <= letter <= "z" for letter in word)


def _part(word):
    """Return the part of a payload: a number, or the name of a dealing; None if the word stands for neither."""
    pieces = word.split("/")
    if not is_name(pieces[0]):
        return number_of(word)
    indexes = [number_of(piece) for piece in pieces[1:]]
    if None in indexes or len(indexes) not in (0, 2):
        return None
    return (pieces[0], *indexes)
