"""The texts of rows of deeds: like take a 0; take b 1; join f 0 1 0."""

from fewboxes.errors import NoText
from fewboxes.trees import is_name

MOST_FIGURES = 4
# What stands behind the first word of a deed's text.
PARTS = {
    "take": ("name", "number"),
    "join": ("name", "number", "number", "number"),
    "put": ("number", "number"),
    "fetch": ("number", "number"),
}


def show_deed(deed):
    return " ".join([str(part) for part in deed])


def show_row(row):
    return "; ".join([show_deed(deed) for deed in row])


def is_number(word):
    if not 1 <= len(word) <= MOST_FIGURES or not all(["0" <= sign <= "9" for sign in word]):
        return False
    return word == "0" or word[0] != "0"


def read_part(kind, word):
    if kind == "name" and is_name(word):
        return word
    if kind == "number" and is_number(word):
        return int(word)
    raise NoText(f"no {kind}: {word!r}")


def read_deed(text):
    words = text.split(" ")
    if words[0] not in PARTS:
        raise NoText(f"no deed: {text!r}")
    kinds = PARTS[words[0]]
    if len(words) != 1 + len(kinds):
        raise NoText(f"too many parts or too few: {text!r}")
    return (words[0],) + tuple([read_part(kind, word) for kind, word in zip(kinds, words[1:])])


def read_row(text):
    # To split it would give one deed without signs.
    if text == "":
        return []
    return [read_deed(deed) for deed in text.split("; ")]
