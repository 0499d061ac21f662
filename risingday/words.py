"""The words of texts: how numbers, keys, maps and hours are written, and read.

What is read are lists of words; BadText(0) tells that they have not their form.
"""
from risingday.errors import BadText
from risingday.keys import WORDS
from risingday.kinds import is_name

DIGITS = "0123456789"
MOST_DIGITS = 20
GREATEST = 99999999999999999999
INDEXES = ("0", "1", "2", "3", "4")


def need_form(holds):
    """Words that have their form."""
    if not holds:
        raise BadText(0)


def is_figure(word, most):
    """Whether a word is a number of up to so many digits, without a nought ahead of others."""
    if not 1 <= len(word) <= most or not all([sign in DIGITS for sign in word]):
        return False
    return word == "0" or word[0] != "0"


def name_read(word):
    """A name."""
    need_form(is_name(word))
    return word


def number_read(word):
    """A number."""
    need_form(is_figure(word, MOST_DIGITS))
    return int(word)


def key_read(words):
    """The key of an errand, of two words."""
    need_form(len(words) == 2 and words[1] in INDEXES)
    return (name_read(words[0]), int(words[1]))


def moment_key_read(words):
    """The key of a moment, of three words."""
    need_form(len(words) == 3 and words[2] in WORDS)
    name, index = key_read(words[:2])
    return (name, index, words[2])


def keys_read(words):
    """The list of the keys of errands that stand in a row."""
    return [key_read(words[place:place + 2]) for place in range(0, len(words), 2)]


def pair_read(words):
    """Two names."""
    need_form(len(words) == 2)
    return (name_read(words[0]), name_read(words[1]))


def rows_read(words):
    """The list of the rows of a map, one or more."""
    rows = []
    left = list(words)
    need_form(len(left) > 0)
    while left:
        need_form(left[0] in ("rises", "level", "never"))
        size = 2 if left[0] == "never" else 3
        need_form(len(left) >= size)
        value = None if size == 2 else number_read(left[2])
        rows.append((number_read(left[1]), value, left[0] == "rises"))
        left = left[size:]
    return rows


def spans_read(words):
    """The spans of hours: None for always, otherwise the list of them."""
    if words == ["always"]:
        return None
    need_form(len(words) % 2 == 0)
    numbers = [number_read(word) for word in words]
    return [(numbers[place], numbers[place + 1]) for place in range(0, len(numbers), 2)]


def key_words(key):
    """The words of the key of an errand or of a moment."""
    return [str(part) for part in key]


def rows_words(rising):
    """The words of the told rows of a map."""
    words = []
    for start, value, grows in rising.rows:
        if value is None:
            words.extend(["never", str(start)])
        else:
            words.extend(["rises" if grows else "level", str(start), str(value)])
    return words


def hours_words(hours):
    """The words of hours."""
    spans = hours.spans()
    return ["always"] if spans is None else [str(minute) for span in spans for minute in span]


def order_words(order):
    """The words of a line with an order."""
    return ["order", *[word for key in order for word in key_words(key)]]
