"""Point 21 in the test's own words: days written in rows, and which row of a text is wrong.

Nothing here imports the program.
"""

import re

NUMBER = "(?:0|[1-9][0-9]{0,3})"
FORMS = {
    "hours": re.compile(f"hours {NUMBER}"),
    "store": re.compile(f"store {NUMBER}"),
    "dish": re.compile(f"dish (?:own|{NUMBER})(?: (?:-|{NUMBER}(?:,{NUMBER})*))*"),
    "block": re.compile(f"block {NUMBER} {NUMBER} {NUMBER} (?:-|{NUMBER}) {NUMBER}"),
}
ORDER = list(FORMS)


def written(day):
    """The text of the day."""
    hours, stores, sights, asks, blocks = day
    text = f"hours {hours}"
    for store in stores:
        text += f"\nstore {store}"
    for dish, row in enumerate(sights):
        text += "\ndish " + ("own" if asks[dish] is None else f"{asks[dish]}")
        for heard in row:
            text += " " + (",".join(map(str, heard)) or "-")
    for house, craft, ready, due, worth in blocks:
        text += f"\nblock {house} {craft} {ready} {'-' if due is None else due} {worth}"
    return text


def first_wrong(text):
    """The number of the first row that has no form, or none at its place; None where all have one."""
    last = None
    for at, row in enumerate(text.split("\n")):
        kinds = [kind for kind, form in FORMS.items() if form.fullmatch(row)]
        if not kinds:
            return at
        if (kinds[0] == "hours") != (at == 0):
            return at
        if at > 0 and ORDER.index(kinds[0]) < ORDER.index(last):
            return at
        last = kinds[0]
    return None


def read_plainly(text):
    """What rows that all have their forms write, be it a day or none."""
    hours, stores, sights, asks, blocks = None, [], [], [], []
    for row in text.split("\n"):
        kind, *told = row.split()
        if kind == "hours":
            hours = int(told[0])
        elif kind == "store":
            stores.append(int(told[0]))
        elif kind == "dish":
            asks.append(None if told[0] == "own" else int(told[0]))
            sights.append([[] if word == "-" else list(map(int, word.split(","))) for word in told[1:]])
        else:
            blocks.append(tuple(None if word == "-" else int(word) for word in told))
    return (hours, stores, sights, asks, blocks)
