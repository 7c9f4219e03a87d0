"""Lines of words, and words that write numbers."""

from fleetpath.errors import FleetError

MOST_WORDS = 60
LONGEST_WORD = 16
LONGEST_NUMBER = 10
FIGURES = "0123456789"
WORD_SIGNS = "abcdefghijklmnopqrstuvwxyz0123456789.:"


class BadLine(FleetError):
    def __init__(self, text):
        self.text = text


class BadWord(FleetError):
    def __init__(self, text):
        self.text = text


def is_made_of(text, signs, longest):
    return 1 <= len(text) <= longest and all([sign in signs for sign in text])


# A blank too many leaves an empty word between the parts, which is no word.
def words_of(line):
    words = line.split(" ")
    if len(words) > MOST_WORDS or not all([is_made_of(word, WORD_SIGNS, LONGEST_WORD) for word in words]):
        raise BadLine(line)
    return words


def number_of(word):
    if not is_made_of(word, FIGURES, LONGEST_NUMBER):
        raise BadWord(word)
    if word[0] == "0" and word != "0":
        raise BadWord(word)
    return int(word)


def joined(first, names):
    return " ".join([first] + names)
