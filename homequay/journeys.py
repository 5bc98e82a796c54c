"""Journeys: a plan drawn apart into the steps of each person, and joined again."""

from homequay.errors import NoJourney
from homequay.persons import is_person
from homequay.steps import step_of, step_or_none
from homequay.walking import is_plan, refuse_no_plan


# The steps of a plan, each as often as it is taken.
def steps_by_tail(table, plan):
    steps = {}
    # By sorted keys, so that the order of a dict's keys changes nothing.
    for key in sorted(plan):
        step = step_of(table, key)
        steps.setdefault(step.tail(), []).extend([step] * plan[key])
    return steps


# Takes the steps of one journey out of those that are there, and tells their keys.
def keys_from(steps, group):
    keys = []
    node = group
    # At each spot that is no home's as many leave as come, so a journey runs out of steps at a home alone.
    while len(steps.get(node, [])) > 0:
        step = steps[node].pop()
        keys.append(step.key())
        node = step.head()
    return keys


def journeys_of(table, plan):
    refuse_no_plan(table, plan)
    steps = steps_by_tail(table, plan)
    journeys = []
    for row in table.groups:
        many = len(steps.get(row[0], []))
        for number in range(many):
            journeys.append((row[0], number, keys_from(steps, row[0])))
    return journeys


def leads_home(table, group, keys):
    node = group
    for key in keys:
        step = step_or_none(table, key)
        if step is None or step.tail() != node:
            return False
        node = step.head()
    return table.is_home(node[0])


def is_journey(table, thing):
    if not isinstance(thing, tuple) or len(thing) != 3:
        return False
    if not is_person(table, thing[:2]):
        return False
    return isinstance(thing[2], list) and len(thing[2]) > 0 and leads_home(table, thing[0], thing[2])


def joined(table, journeys):
    if not isinstance(journeys, (list, tuple)):
        raise NoJourney(None)
    persons = {}
    plan = {}
    for at, journey in enumerate(journeys):
        if not is_journey(table, journey) or (journey[0], journey[1]) in persons:
            raise NoJourney(at)
        persons[(journey[0], journey[1])] = True
        for key in journey[2]:
            plan[key] = plan.get(key, 0) + 1
    return plan


def journeys_fit(table, plan, journeys):
    if not is_plan(table, plan) or not isinstance(journeys, list):
        return False
    try:
        return joined(table, journeys) == plan
    except NoJourney:
        return False
