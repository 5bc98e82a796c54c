"""Lines, and how many people they let home by a turn."""

from homequay.errors import NoTurn
from homequay.steps import moves_of
from homequay.webs import is_spot_of
from homequay.words import is_whole, is_within


def is_turn(table, thing):
    return is_within(thing, 0, table.turns)


def refuse_no_turn(table, thing):
    if not is_turn(table, thing):
        raise NoTurn(thing)


def has_form(line):
    if not isinstance(line, tuple) or len(line) != 2:
        return False
    return isinstance(line[0], list) and isinstance(line[1], list)


# The nodes of a line's near side as keys of a dict, so that they are found at once; None where it is no line.
def near_side(table, line):
    if not has_form(line):
        return None
    if not all([table.is_group(thing) for thing in line[0]]):
        return None
    if not all([is_spot_of(table, thing) for thing in line[1]]):
        return None
    near = {}
    for node in line[0] + line[1]:
        near[node] = True
    # Fewer keys than things: one of them stands there twice.
    return near if len(near) == len(line[0]) + len(line[1]) else None


def set_out_crosses(table, near, row):
    if row[0] not in near:
        return False
    return any([(row[1], turn) not in near for turn in range(row[2], table.turns + 1)])


def rooms_across(table, line):
    near = near_side(table, line)
    if near is None or any([set_out_crosses(table, near, row) for row in table.groups]):
        return None
    return sum([step.room() for step in moves_of(table) if step.tail() in near and step.head() not in near])


def people_beyond(table, line):
    return table.people() - sum([table.group_row(name)[3] for name in line[0]])


def lets(table, turn, line):
    refuse_no_turn(table, turn)
    rooms = rooms_across(table, line)
    if rooms is None or any([table.is_home(spot[0]) and spot[1] <= turn for spot in line[1]]):
        return None
    return rooms + people_beyond(table, line)


def is_line(table, turn, line, number):
    # Of what is no line for the turn None is told, which is no whole number.
    return is_turn(table, turn) and is_whole(number) and lets(table, turn, line) == number
