"""The rest of a table: who is home and who stands where, when a plan has been walked up to a turn."""

from homequay.lines import refuse_no_turn
from homequay.steps import step_of
from homequay.tables import Table
from homequay.walking import out_by_group, refuse_no_plan, taken_steps
from homequay.webs import spots_of


def begin_of(step):
    # The tail of a setting out is a group, which has no turn.
    return step.head()[1] if step.key()[0] == "out" else step.tail()[1]


# The part of a plan that was walked up to the turn.
def walked_ahead_of(table, plan, now):
    walked = {}
    for key, many in plan.items():
        if begin_of(step_of(table, key)) < now:
            walked[key] = many
    return walked


def add_people(many_at, spot, many):
    if many > 0:
        many_at[spot] = many_at.get(spot, 0) + many


# From each spot at which people stand to how many these are.
def standing_at(table, walked, now):
    many_at = {}
    out = out_by_group(walked)
    for row in table.groups:
        add_people(many_at, (row[1], max(row[2], now)), row[3] - out.get(row[0], 0))
    for step, many in taken_steps(table, walked):
        spot = step.head()
        # Who came to a home by now is home, and who came to another place ahead of now has gone on.
        if spot[1] > now or (spot[1] == now and not table.is_home(spot[0])):
            add_people(many_at, spot, many)
    return many_at


def many_home(table, walked, now):
    steps = taken_steps(table, walked)
    return sum([many for step, many in steps if step.head()[1] <= now and table.is_home(step.head()[0])])


def rest_of(table, plan, now):
    refuse_no_plan(table, plan)
    refuse_no_turn(table, now)
    walked = walked_ahead_of(table, plan, now)
    many_at = standing_at(table, walked, now)
    rides = [row for row in table.rides if row[2] >= now]
    spots = [spot for spot in spots_of(table) if spot in many_at]
    groups = [(f"{place}.{turn}", place, turn, many_at[(place, turn)]) for place, turn in spots]
    return (many_home(table, walked, now), Table(table.turns, table.places, rides, table.ways, groups))
