"""Plans: what is wrong with one, and what is told of one that can be walked."""

from homequay.errors import NoPlan
from homequay.steps import step_of, step_or_none, steps_of
from homequay.words import is_whole


def wrong_keys(table, plan):
    wrong = []
    for key, many in plan.items():
        if step_or_none(table, key) is None:
            wrong.append(("step", key))
        elif not is_whole(many) or many < 1:
            wrong.append(("number", key))
    return wrong


def taken_steps(table, plan):
    return [(step_of(table, key), many) for key, many in plan.items()]


def steps_over(table, plan):
    over = {}
    for step, many in taken_steps(table, plan):
        if step.room() is not None and many > step.room():
            over[step.key()] = True
    if len(over) == 0:
        # All steps are many more than those of a plan, and are walked for their order alone.
        return []
    return [("over", step.key()) for step in steps_of(table) if step.key() in over]


def out_by_group(plan):
    out = {}
    for key, many in plan.items():
        if key[0] == "out":
            out[key[1]] = out.get(key[1], 0) + many
    return out


def groups_over(table, plan):
    out = out_by_group(plan)
    return [("group", row[0]) for row in table.groups if out.get(row[0], 0) > row[3]]


def spots_uneven(table, plan):
    more_come = {}
    for step, many in taken_steps(table, plan):
        more_come[step.head()] = more_come.get(step.head(), 0) + many
        more_come[step.tail()] = more_come.get(step.tail(), 0) - many
    uneven = []
    for turn in range(table.turns + 1):
        for name, room in table.places:
            if room is not None and more_come.get((name, turn), 0) != 0:
                uneven.append(("spot", name, turn))
    return uneven


def faults(table, plan):
    if not isinstance(plan, dict):
        raise NoPlan(plan)
    wrong = wrong_keys(table, plan)
    if len(wrong) > 0:
        return wrong
    return steps_over(table, plan) + groups_over(table, plan) + spots_uneven(table, plan)


def is_plan(table, thing):
    return isinstance(thing, dict) and len(faults(table, thing)) == 0


def refuse_no_plan(table, thing):
    if not is_plan(table, thing):
        raise NoPlan(thing)


def home_at(table, plan):
    refuse_no_plan(table, plan)
    many_at = {}
    for step, many in taken_steps(table, plan):
        spot = step.head()
        if table.is_home(spot[0]):
            many_at[spot] = many_at.get(spot, 0) + many
    return many_at


def home_counts(table, plan):
    many_at = home_at(table, plan)
    counts = [0] * (table.turns + 1)
    for spot, many in many_at.items():
        for turn in range(spot[1], table.turns + 1):
            counts[turn] = counts[turn] + many
    return counts


def turns_of(table, plan):
    refuse_no_plan(table, plan)
    return sum([step.price() * many for step, many in taken_steps(table, plan)])
