"""The turn by which all can be home, or how many never can; and how many can where only some homes are homes."""

from homequay.best import best, best_by
from homequay.lines import is_line, is_turn, refuse_no_turn
from homequay.walking import home_counts, is_plan
from homequay.words import is_whole


def all_home(table):
    told = best(table)
    plan = told[0]
    counts = told[1]
    lines = told[2]
    people = table.people()
    if counts[table.turns] < people:
        return ("never", people - counts[table.turns], plan, lines[table.turns])
    turn = counts.index(people)
    return ("home", turn, plan, None if turn == 0 else lines[turn - 1])


def home_holds(table, turn, counts, line):
    if not is_turn(table, turn) or counts[turn] != table.people():
        return False
    if turn == 0:
        return line is None
    return counts[turn - 1] < table.people() and is_line(table, turn - 1, line, counts[turn - 1])


def never_holds(table, many, counts, line):
    if not is_whole(many) or many < 1 or counts[table.turns] != table.people() - many:
        return False
    return is_line(table, table.turns, line, counts[table.turns])


def all_home_holds(table, told):
    if not isinstance(told, tuple) or len(told) != 4 or not is_plan(table, told[2]):
        return False
    counts = home_counts(table, told[2])
    if told[0] == "home":
        return home_holds(table, told[1], counts, told[3])
    return told[0] == "never" and never_holds(table, told[1], counts, told[3])


def by_homes(table, turn, bits):
    refuse_no_turn(table, turn)
    return best_by(table.with_homes(bits), turn)
