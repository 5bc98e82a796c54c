"""Prices of groups and spots, and whether they show that a plan has the least turns."""

from homequay.steps import steps_of
from homequay.walking import home_at, is_plan, out_by_group
from homequay.webs import is_spot_of, spots_of
from homequay.words import is_whole


def are_prices(table, thing):
    if not isinstance(thing, dict):
        return False
    # As many keys as nodes, and each of them a node: so none is left out.
    if len(thing) != len(table.groups) + len(spots_of(table)):
        return False
    if not all([table.is_group(key) or is_spot_of(table, key) for key in thing]):
        return False
    return all([is_whole(price) for price in thing.values()])


def step_holds(step, many, prices):
    way_price = prices[step.tail()] + step.price()
    has_room = step.room() is None or many < step.room()
    if has_room and prices[step.head()] > way_price:
        return False
    return many == 0 or prices[step.head()] >= way_price


def group_holds(row, many_out, price):
    if many_out < row[3] and price > 0:
        return False
    return many_out == 0 or price >= 0


def groups_hold(table, plan, prices):
    out = out_by_group(plan)
    return all([group_holds(row, out.get(row[0], 0), prices[row[0]]) for row in table.groups])


def home_holds(table, spot, prices):
    return all([prices[spot] <= prices[(home, spot[1])] for home in table.homes()])


def homes_hold(table, plan, prices):
    return all([home_holds(table, spot, prices) for spot in home_at(table, plan)])


def prices_hold(table, plan, prices):
    if not is_plan(table, plan) or not are_prices(table, prices):
        return False
    if not all([step_holds(step, plan.get(step.key(), 0), prices) for step in steps_of(table)]):
        return False
    return groups_hold(table, plan, prices) and homes_hold(table, plan, prices)
