"""The text of a table, and the reading of it."""

from homequay.errors import BadLine, BadTable
from homequay.tables import Table
from homequay.words import is_group_name, is_name, number_of

# What each word behind the first one of a row is.
FORMS = {
    "turns": ("number",),
    "place": ("name", "number"),
    "home": ("name",),
    "ride": ("name", "name", "number", "name", "number", "number"),
    "way": ("name", "name", "name", "number", "number"),
    "group": ("group name", "name", "number", "number"),
}
PARTS = {"turns": "turns", "place": "places", "home": "places", "ride": "rides", "way": "ways", "group": "groups"}


def row_text(first, things):
    return " ".join([first] + [str(thing) for thing in things])


def place_text(row):
    if row[1] is None:
        return row_text("home", row[:1])
    return row_text("place", row)


def show_table(table):
    rows = [row_text("turns", [table.turns])]
    rows.extend([place_text(row) for row in table.places])
    rows.extend([row_text("ride", row) for row in table.rides])
    rows.extend([row_text("way", row) for row in table.ways])
    rows.extend([row_text("group", row) for row in table.groups])
    return "\n".join(rows)


def read_word(word, form):
    if form == "number":
        return number_of(word)
    fits = is_name(word) if form == "name" else is_group_name(word)
    return word if fits else None


def read_row(words):
    form = FORMS.get(words[0])
    if form is None or len(words) != len(form) + 1:
        return None
    things = [read_word(word, wanted) for word, wanted in zip(words[1:], form)]
    if None in things:
        return None
    # A home is a place that has the room None, which no word writes.
    return tuple(things + [None]) if words[0] == "home" else tuple(things)


def read_rows(lines):
    rows_by_part = {"turns": [], "places": [], "rides": [], "ways": [], "groups": []}
    for number, line in enumerate(lines):
        words = line.split(" ")
        row = read_row(words)
        if row is None:
            raise BadLine(number, "form")
        rows_by_part[PARTS[words[0]]].append((number, row))
    return rows_by_part


def made_table(rows_by_part):
    turns = rows_by_part["turns"][0][1][0]
    places = [row for number, row in rows_by_part["places"]]
    rides = [row for number, row in rows_by_part["rides"]]
    ways = [row for number, row in rows_by_part["ways"]]
    groups = [row for number, row in rows_by_part["groups"]]
    try:
        return Table(turns, places, rides, ways, groups)
    except BadTable as refused:
        # Only the turns are refused without a row's number, and they have one row.
        at = 0 if refused.at is None else refused.at
        raise BadLine(rows_by_part[refused.part][at][0], refused.why) from None


def read_table(text):
    if not isinstance(text, str):
        raise BadLine(0, "form")
    lines = text.split("\n")
    rows_by_part = read_rows(lines)
    turns = rows_by_part["turns"]
    if len(turns) == 0:
        raise BadLine(len(lines), "turns")
    if len(turns) > 1:
        raise BadLine(turns[1][0], "turns")
    return made_table(rows_by_part)
