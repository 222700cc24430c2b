"""The texts of worlds, rows and diaries."""

from neverowing.ahead import check_row
from neverowing.diaries import check_diary
from neverowing.errors import BadDiary, BadRow, BadText, BadWorld
from neverowing.worlds import World

DIGITS = "0123456789"
MOST_DIGITS = 1000
EMPTY = "-"
UNKNOWN = "?"
START = "start "


def world_text(world):
    """The text of a world."""
    lines = [standing_line(world, standing) for standing in range(world.size)]
    return "\n".join(lines + [START + str(world.start)])


def standing_line(world, standing):
    """The line of a standing."""
    turns = [">" + str(goal) for goal in world.turns[standing]]
    asks = [name + "=" + ",".join([f"{goal}/{price}" for goal, price in answers])
            for name, answers in world.asks[standing]]
    return " ".join([f"{standing}:"] + turns + asks)


def row_text(row):
    """The text of a row."""
    check_row(row)
    return " ".join(row) if len(row) > 0 else EMPTY


def diary_text(diary):
    """The text of a diary."""
    check_diary(diary)
    return " ".join([item_text(name, price) for name, price in diary]) if len(diary) > 0 else EMPTY


def item_text(name, price):
    """The text of an item of a diary."""
    return (UNKNOWN if name is None else name) + ":" + (UNKNOWN if price is None else str(price))


def read_world(text):
    """The world that has this text."""
    world = world_in(text) if isinstance(text, str) else None
    # What the reading let pass makes another text than the right one.
    if world is None or world_text(world) != text:
        raise BadText(text)
    return world


def read_row(text):
    """The row that has this text."""
    row = words_in(text) if isinstance(text, str) else None
    try:
        same = row_text(row) == text
    except BadRow:
        same = False
    if not same:
        raise BadText(text)
    return row


def read_diary(text):
    """The diary that has this text."""
    diary = [item_in(word) for word in words_in(text)] if isinstance(text, str) else None
    try:
        same = diary_text(diary) == text
    except BadDiary:
        same = False
    if not same:
        raise BadText(text)
    return diary


def world_in(text):
    """The world that the lines of a text may tell, None if it is none."""
    lines = text.split("\n")
    rows = [line.split(" ")[1:] for line in lines[:-1]]
    turns = [tuple([number_in(word[1:]) for word in row if word.startswith(">")]) for row in rows]
    asks = [tuple([ask_in(word) for word in row if not word.startswith(">")]) for row in rows]
    try:
        return World(tuple(turns), tuple(asks), start=number_in(lines[-1].removeprefix(START)))
    except BadWorld:
        return None


def ask_in(word):
    """The ask that a word may tell."""
    name, _, answers = word.partition("=")
    return name, tuple([answer_in(told) for told in answers.split(",")])


def answer_in(word):
    """The answer that a word may tell."""
    goal, _, price = word.partition("/")
    return number_in(goal), number_in(price)


def words_in(text):
    """The words of a text."""
    return [] if text == EMPTY else text.split(" ")


def item_in(word):
    """The item of a diary that a word may tell."""
    name, _, price = word.partition(":")
    return (None if name == UNKNOWN else name), number_in(price)


def number_in(word):
    """The number that a word may tell, None if it is none."""
    if not 1 <= len(word) <= MOST_DIGITS or not all([sign in DIGITS for sign in word]):
        return None
    return int(word)
