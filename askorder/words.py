"""The words of a row: names and numbers."""

from askorder.errors import BadRow


def is_name(word):
    return 1 <= len(word) <= 12 and all(["a" <= sign <= "z" for sign in word])


def number_of(word):
    if not is_number(word):
        raise BadRow("the word is no number")
    return int(word)


def is_number(word):
    if not 1 <= len(word) <= 31 or not all(["0" <= sign <= "9" for sign in word]):
        return False
    return word[0] != "0" or word == "0"
