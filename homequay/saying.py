"""The rows that a desk is told, and the words in which it answers."""

from homequay.tabletext import read_word

# What each word behind the first one of a row is; the row of ranks, which has any number of words, is told apart.
FORMS = {
    "go": ("number",),
    "strike": ("name",),
    "put": ("name", "name", "number", "name", "number", "number"),
    "seats": ("name", "number"),
    "later": ("name", "number"),
    "now": (),
    "since": (),
    "home": (),
    "counts": (),
    "turns": (),
    "standing": (),
    "table": (),
    "plan": (),
    "line": ("number",),
    "journey": ("group name", "number"),
    "by": ("number",),
    "all": (),
    "more": ("name", "number"),
    "less": ("name", "number"),
}


def forms_of(words):
    if words[0] == "ranks":
        return ("number",) + ("person",) * (len(words) - 2)
    return FORMS.get(words[0])


def read_person(word):
    parts = word.split(":")
    if len(parts) != 2:
        return None
    group = read_word(parts[0], "group name")
    number = read_word(parts[1], "number")
    return None if group is None or number is None else (group, number)


def read_thing(word, form):
    return read_person(word) if form == "person" else read_word(word, form)


# The first word of a row, and the things that the others write; None where the row has no form.
def read_saying(row):
    if not isinstance(row, str):
        return None
    words = row.split(" ")
    forms = forms_of(words)
    if forms is None or len(words) != len(forms) + 1:
        return None
    things = [read_thing(word, form) for word, form in zip(words[1:], forms)]
    return None if None in things else [words[0]] + things


def words_text(things):
    return " ".join([str(thing) for thing in things]) if len(things) > 0 else "nothing"


def rows_text(rows):
    return "; ".join([words_text(row) for row in rows]) if len(rows) > 0 else "nothing"


def pairs_text(pairs):
    return words_text([f"{name}:{number}" for name, number in pairs])


def line_text(line):
    groups = words_text(line[0]) if len(line[0]) > 0 else "-"
    spots = pairs_text(line[1]) if len(line[1]) > 0 else "-"
    return f"{groups} / {spots}"
