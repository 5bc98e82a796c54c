"""Persons: the people of a group, one by one, each told by the group's name and a number."""

from homequay.words import is_within


def is_person(table, thing):
    if not isinstance(thing, tuple) or len(thing) != 2 or not table.is_group(thing[0]):
        return False
    return is_within(thing[1], 0, table.group_row(thing[0])[3] - 1)


def persons_of(table):
    persons = []
    for row in table.groups:
        persons.extend([(row[0], number) for number in range(row[3])])
    return persons
