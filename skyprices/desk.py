"""A desk at which days stand by names: rows are said to it, and it answers each."""

from skyprices.changes import broken, goes_by
from skyprices.errors import NoName, NoRow
from skyprices.houses import bills, block_prices, told_otherwise
from skyprices.kept import gain, kept, rented
from skyprices.prices import price_of
from skyprices.texts import is_figures, read_day, show_day

SMALL_LETTERS = "abcdefghijklmnopqrstuvwxyz"
MOST_LETTERS = 8
PLACE_WORDS = ("dish", "radio", "store")

# Of what kinds the words behind the name are. A day row is not among these: it has a text there, blanks and all.
FORMS = {
    "drop": (),
    "break": ("number", "number"),
    "worth": ("number", "number"),
    "show": (),
    "kept": (),
    "gain": (),
    "rented": (),
    "price": ("place", "number", "number"),
    "prices": (),
    "bills": (),
    "lost": ("number", "number"),
}


def _break(day, told):
    dish, hour = told
    return broken(day, dish, hour)


def _tell_worth(day, told):
    number, worth = told
    return told_otherwise(day, number, worth)


def _say_show(day, told):
    return show_day(day).replace("\n", ";")


def _say_kept(day, told):
    return _row_of(kept(day))


def _say_gain(day, told):
    return str(gain(day))


def _say_rented(day, told):
    return _row_of([f"{dish}:{hour}" for dish, hour in rented(day)])


def _say_price(day, told):
    return str(price_of(day, tuple(told)))


def _say_prices(day, told):
    return _row_of(block_prices(day))


def _say_bills(day, told):
    return _row_of(bills(day))


def _say_lost(day, told):
    dish, hour = told
    return _row_of(goes_by(day, dish, hour))


# Apart, since what is told by those that change a day is the new day, which is put in its place.
CHANGES = {"break": _break, "worth": _tell_worth}
ANSWERS = {
    "show": _say_show,
    "kept": _say_kept,
    "gain": _say_gain,
    "rented": _say_rented,
    "price": _say_price,
    "prices": _say_prices,
    "bills": _say_bills,
    "lost": _say_lost,
}


class Desk:
    """Days by names."""

    def __init__(self):
        self._days = {}

    def names(self):
        """The names by which days stand, rising."""
        return sorted(self._days)

    def say(self, row):
        """Do what the row says, and tell its answer."""
        word, name, *told = _words_of(row)
        if word != "day" and name not in self._days:
            raise NoName("no day stands by this name")
        if word in ANSWERS:
            answer = ANSWERS[word]
            return answer(self._days[name], _values_of(told))
        self._put(word, name, told)
        return "ok"

    def _put(self, word, name, told):
        """Do what changes the days that stand here."""
        if word == "day":
            self._days[name] = read_day(told[0].replace(";", "\n"))
        elif word == "drop":
            del self._days[name]
        else:
            change = CHANGES[word]
            self._days[name] = change(self._days[name], _values_of(told))


def _row_of(things):
    """The things in a row, parted by blanks, or none where there is nothing."""
    return " ".join([str(thing) for thing in things]) if things else "none"


def _words_of(row):
    """The words of the row, a text being one of them."""
    if not isinstance(row, str) or "\n" in row or "\t" in row:
        raise NoRow("this is no row")
    # The text of a day row has blanks of its own.
    words = row.split(" ", 2) if row.startswith("day ") else row.split(" ")
    if not _is_row(words):
        raise NoRow("this is no row")
    return words


def _is_row(words):
    if len(words) < 2 or not _is_name(words[1]):
        return False
    if words[0] == "day":
        return len(words) == 3
    return words[0] in FORMS and _are_of(words[2:], FORMS[words[0]])


def _is_name(word):
    return 1 <= len(word) <= MOST_LETTERS and all(letter in SMALL_LETTERS for letter in word)


def _are_of(words, kinds):
    return len(words) == len(kinds) and all([_is_of(word, kind) for word, kind in zip(words, kinds)])


def _is_of(word, kind):
    return word in PLACE_WORDS if kind == "place" else is_figures(word)


def _values_of(words):
    """The words, those that write numbers as these."""
    return [int(word) if is_figures(word) else word for word in words]
