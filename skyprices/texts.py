"""Days as texts, and texts read back."""

from skyprices.days import is_day, need_day
from skyprices.errors import NoText

# The words with which the rows begin, in the order in which the rows stand.
KINDS = ("hours", "store", "dish", "block")


def show_day(day):
    """The text of the day."""
    need_day(day)
    hours, stores, sights, asks, blocks = day
    rows = [f"hours {hours}"]
    rows.extend([f"store {store}" for store in stores])
    rows.extend([_dish_row(asks[dish], sights[dish]) for dish in range(len(sights))])
    rows.extend([_block_row(block) for block in blocks])
    return "\n".join(rows)


def _dish_row(ask, sight):
    words = ["dish", "own" if ask is None else str(ask)]
    return " ".join(words + [_heard_word(heard) for heard in sight])


def _heard_word(heard):
    return ",".join([str(craft) for craft in heard]) if heard else "-"


def _block_row(block):
    house, craft, ready, due, worth = block
    due_word = "-" if due is None else str(due)
    return f"block {house} {craft} {ready} {due_word} {worth}"


def read_day(text):
    """The day that the text writes."""
    if not isinstance(text, str):
        raise NoText(None)
    rows = [row.split(" ") for row in text.split("\n")]
    for at in range(len(rows)):
        if not _has_form(rows[at]) or not _is_at_its_place(rows, at):
            raise NoText(at)
    day = _day_of(rows)
    if not is_day(day):
        raise NoText(len(rows))
    return day


def is_figures(word):
    """True where the word writes a number: one to four figures, no 0 ahead of another."""
    return (
        1 <= len(word) <= 4
        and all(sign in "0123456789" for sign in word)
        and (word == "0" or not word.startswith("0"))
    )


def _has_form(words):
    """True where the words are those of some row."""
    kind = words[0]
    told = words[1:]
    if kind in ("hours", "store"):
        return len(told) == 1 and is_figures(told[0])
    if kind == "dish":
        return _has_form_of_dish(told)
    return kind == "block" and _has_form_of_block(told)


def _has_form_of_dish(told):
    return (
        len(told) >= 1
        and (told[0] == "own" or is_figures(told[0]))
        and all(_is_heard_word(word) for word in told[1:])
    )


def _is_heard_word(word):
    return word == "-" or all(is_figures(part) for part in word.split(","))


def _has_form_of_block(told):
    if len(told) != 5:
        return False
    house, craft, ready, due, worth = told
    return all(is_figures(word) for word in (house, craft, ready, worth)) and (due == "-" or is_figures(due))


def _is_at_its_place(rows, at):
    """True where the row may stand behind the one ahead; both have their forms."""
    kind = rows[at][0]
    if at == 0:
        return kind == "hours"
    return kind != "hours" and KINDS.index(kind) >= KINDS.index(rows[at - 1][0])


def _day_of(rows):
    """What rows that all have their forms and places write: perhaps no day."""
    hours = int(rows[0][1])
    stores = [int(words[1]) for words in rows if words[0] == "store"]
    dishes = [words for words in rows if words[0] == "dish"]
    sights = [[_heard_of(word) for word in words[2:]] for words in dishes]
    asks = [_number_of(words[1], "own") for words in dishes]
    return hours, stores, sights, asks, [_block_of(words) for words in rows if words[0] == "block"]


def _heard_of(word):
    return [] if word == "-" else [int(part) for part in word.split(",")]


def _number_of(word, word_for_none):
    """The number that the word writes, or None."""
    return None if word == word_for_none else int(word)


def _block_of(words):
    kind, house, craft, ready, due, worth = words
    return int(house), int(craft), int(ready), _number_of(due, "-"), int(worth)
