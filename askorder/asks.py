"""What a row tells or asks: its first word, and what stands behind that."""

from askorder.errors import BadRow
from askorder.words import is_name, number_of

# What is wanted behind each first word; names, none or more, take all that is left.
WANTED = {
    "vote": ("number", "names"),
    "out": ("number",),
    "raise": ("number", "name"),
    "back": (),
    "beats": ("name", "name"),
    "top": (),
    "uncovered": (),
    "crowns": (),
    "weights": (),
    "plain": ("names",),
    "ahead": ("names",),
    "rest": ("names",),
    "chair": ("kind", "names"),
    "line": (),
    "parts": (),
}


def row_asked(row):
    words = row.split(" ")
    if words[0] not in WANTED:
        raise BadRow("no row begins with this word")
    told = [words[0]]
    left = words[1:]
    for wanted in WANTED[words[0]]:
        if wanted == "names":
            told.append(tuple([name_of(word) for word in left]))
            left = []
        else:
            told.append(first_as(wanted, left))
            left = left[1:]
    if left:
        raise BadRow("there are too many words")
    return tuple(told)


def first_as(wanted, words):
    if not words:
        raise BadRow("there are too few words")
    if wanted == "number":
        return number_of(words[0])
    if wanted == "kind":
        return kind_of(words[0])
    return name_of(words[0])


def kind_of(word):
    if word not in ("plain", "ahead", "rest"):
        raise BadRow("the word is no kind")
    return word


def name_of(word):
    if not is_name(word):
        raise BadRow("the word is no name")
    return word
