"""The wording of rows: hands, stamps and numbers as words, and which rows there are."""

from talkmarks.errors import NoRow
from talkmarks.houses import hands_of
from talkmarks.names import is_name, is_saying

FIGURES = "0123456789"
MOST_FIGURES = 12

# Small words stand in a row as they are; a SAYING is all the rest of the row.
FORMS = (
    ("HAND", "say", "ROOM", "SAYING"),
    ("HAND", "answer", "MESSAGE", "SAYING"),
    ("HAND", "change", "MESSAGE", "SAYING"),
    ("HAND", "back", "MESSAGE"),
    ("HAND", "like", "MESSAGE", "SORT"),
    ("HAND", "unlike", "MESSAGE", "SORT"),
    ("HAND", "read", "ROOM"),
    ("HAND", "seen", "MESSAGE"),
    ("HAND", "hush", "room", "ROOM"),
    ("HAND", "hush", "person", "NAME"),
    ("HAND", "hush", "under", "MESSAGE"),
    ("HAND", "unhush", "room", "ROOM"),
    ("HAND", "unhush", "person", "NAME"),
    ("HAND", "unhush", "under", "MESSAGE"),
    ("HAND", "tells", "HAND"),
    ("HAND", "tells", "HAND", "MANY"),
    ("HAND", "rings"),
    ("HAND", "shows", "ROOM"),
    ("HAND", "new"),
)


def show_hand(hand):
    name = hand[0]
    k = hand[1]
    return f"{name}{k}"


def show_stamp(stamp):
    return str(stamp[0]) + show_hand(stamp[1])


def read_hand(house, word):
    for hand in hands_of(house):
        if show_hand(hand) == word:
            return hand
    raise NoRow("there is no such hand in the house")


def is_figures(word):
    if not 1 <= len(word) <= MOST_FIGURES or word.lstrip(FIGURES) != "":
        return False
    return word == "0" or not word.startswith("0")


def read_number(word):
    if not is_figures(word):
        raise NoRow("these are no figures")
    return int(word)


def read_stamp(house, text):
    if not isinstance(text, str):
        raise NoRow("this is no text")
    behind = text.lstrip(FIGURES)
    time = read_number(text[:len(text) - len(behind)])
    if time < 1:
        raise NoRow("times are from 1 on")
    return (time, read_hand(house, behind))


def read_name(word):
    if not is_name(word):
        raise NoRow("this is no name")
    return word


def read_saying(text):
    if not is_saying(text):
        raise NoRow("this is no saying")
    return text


def read_word(house, place, word):
    if place == "HAND":
        return read_hand(house, word)
    if place == "MESSAGE":
        return read_stamp(house, word)
    if place in ("ROOM", "NAME", "SORT"):
        return read_name(word)
    if place == "MANY":
        return read_number(word)
    return read_saying(word) if place == "SAYING" else word


def words_for(form, row):
    return row.split(" ", len(form) - 1) if form[-1] == "SAYING" else row.split(" ")


def fits(form, words):
    if len(words) != len(form) or "" in words:
        return False
    return all([word == place for place, word in zip(form, words) if place.islower()])


def read_row(house, row):
    if not isinstance(row, str):
        raise NoRow("this is no text")
    for form in FORMS:
        words = words_for(form, row)
        if fits(form, words):
            return [read_word(house, place, word) for place, word in zip(form, words)]
    raise NoRow("there is no such row")
