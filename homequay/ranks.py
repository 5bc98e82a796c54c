"""Ranks: who can be home by one turn where people have an order, and the lines that leave out the others."""

from homequay.errors import NoOrder
from homequay.lines import is_turn, lets, people_beyond, refuse_no_turn
from homequay.persons import is_person, persons_of
from homequay.sending import Sending
from homequay.walking import home_counts, is_plan, out_by_group
from homequay.webs import home_spots_by


# All persons of the table, those of the order first.
def by_ranks(table, order):
    if not isinstance(order, (list, tuple)):
        raise NoOrder(None)
    stands = {}
    for at, thing in enumerate(order):
        if not is_person(table, thing) or thing in stands:
            raise NoOrder(at)
        stands[thing] = True
    return list(order) + [person for person in persons_of(table) if person not in stands]


def copied(line):
    return (list(line[0]), list(line[1]))


# A line that is filled stays so, whoever is sent later; so nobody more of any group near it is chosen.
def keep_line(line_of, group, sending):
    if group not in line_of:
        line = sending.near()
        for name in line[0]:
            line_of.setdefault(name, line)


def ranked(table, turn, order):
    refuse_no_turn(table, turn)
    persons = by_ranks(table, order)
    goals = home_spots_by(table, turn)
    sending = Sending(table)
    chosen = []
    left = []
    line_of = {}
    for person in persons:
        group = person[0]
        if group not in line_of and sending.more([group], goals):
            chosen.append(person)
        else:
            keep_line(line_of, group, sending)
            left.append((person, copied(line_of[group])))
    return (chosen, sending.sent(), left)


def is_left(table, thing):
    return isinstance(thing, tuple) and len(thing) == 2 and is_person(table, thing[0])


def has_form(table, told):
    if not isinstance(told, tuple) or len(told) != 3:
        return False
    if not isinstance(told[0], list) or not all([is_person(table, thing) for thing in told[0]]):
        return False
    if not isinstance(told[2], list) or not all([is_left(table, thing) for thing in told[2]]):
        return False
    return is_plan(table, told[1])


def many_by_group(persons):
    many = {}
    for person in persons:
        many[person[0]] = many.get(person[0], 0) + 1
    return many


# Whether all persons are parted into those two, each of them by their ranks.
def are_parted(persons, chosen, left):
    is_chosen = {}
    for person in chosen:
        is_chosen[person] = True
    if chosen != [person for person in persons if person in is_chosen]:
        return False
    return left == [person for person in persons if person not in is_chosen]


def plan_holds(table, turn, chosen, plan):
    counts = home_counts(table, plan)
    return counts[turn] == counts[table.turns] and out_by_group(plan) == many_by_group(chosen)


def line_holds(table, turn, person, line, ahead):
    number = lets(table, turn, line)
    if number is None or person[0] not in line[0]:
        return False
    rooms = number - people_beyond(table, line)
    return rooms == sum([ahead.get(group, 0) for group in line[0]])


def lines_hold(table, turn, persons, left):
    line_of = dict(left)
    ahead = {}
    for person in persons:
        if person not in line_of:
            ahead[person[0]] = ahead.get(person[0], 0) + 1
        elif not line_holds(table, turn, person, line_of[person], ahead):
            return False
    return True


def ranks_hold(table, turn, order, told):
    if not is_turn(table, turn) or not has_form(table, told):
        return False
    try:
        persons = by_ranks(table, order)
    except NoOrder:
        return False
    if not are_parted(persons, told[0], [person for person, line in told[2]]):
        return False
    return plan_holds(table, turn, told[0], told[1]) and lines_hold(table, turn, persons, told[2])
