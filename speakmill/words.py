"""Texts and their words: marks, numbers, told words and names."""

from speakmill.errors import BadText

LONGEST_TEXT = 4000
LONGEST_NUMBER = 12
LONGEST_NAME = 8

# Written out, as isdigit and islower take signs from beyond the told ones.
FIGURES = "0123456789"
LETTERS = "abcdefghijklmnopqrstuvwxyz"
GAPS = " \t\n"
MARKS = "(),=+-*/<:![]"
TOLD_WORDS = ("def", "if", "then", "else", "let", "in", "fn", "yes", "no", "head", "tail", "empty", "not")


def words(text):
    if len(text) > LONGEST_TEXT:
        raise BadText(f"the text has more than {LONGEST_TEXT} signs")
    found = []
    place = 0
    while place < len(text):
        if text[place] in GAPS:
            place += 1
        else:
            word = word_from(text, place)
            found.append(word)
            place += len(word)
    return found


def word_from(text, place):
    sign = text[place]
    if in_long_word(sign):
        return long_word_from(text, place)
    if text[place:place + 2] == "=>":
        return "=>"
    if sign in MARKS:
        return sign
    raise BadText(f"no word has the sign {sign!r}")


def in_long_word(sign):
    return sign in LETTERS or sign in FIGURES


def long_word_from(text, place):
    end = place
    while end < len(text) and in_long_word(text[end]):
        end += 1
    word = text[place:end]
    if not is_number(word) and not is_told(word) and not is_name(word):
        raise BadText(f"{word!r} is no number and no name")
    return word


# The empty text is asked for too, where a reader is behind the last word: it is none of these.
def is_number(word):
    if word == "" or len(word) > LONGEST_NUMBER:
        return False
    return all([sign in FIGURES for sign in word]) and (word[0] != "0" or word == "0")


def is_told(word):
    return word in TOLD_WORDS


def is_name(word):
    if word == "" or len(word) > LONGEST_NAME or is_told(word):
        return False
    return word[0] in LETTERS and all([in_long_word(sign) for sign in word])
