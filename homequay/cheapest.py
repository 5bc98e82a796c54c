"""Plans that have the least turns of all by which as many people are home at each turn."""

from homequay.best import best
from homequay.walking import home_counts, turns_of
from homequay.yards import YardNet


# A plan of the least turns by which so many are home by each turn, and prices that show it.
def least_by(table, counts):
    comers = [counts[0]] + [by_then - ahead for ahead, by_then in zip(counts, counts[1:])]
    net = YardNet(table, comers)
    return (net.told_plan(), net.told_prices())


def made_less(table, plan):
    turns = turns_of(table, plan)
    least = least_by(table, home_counts(table, plan))
    if turns_of(table, least[0]) < turns:
        return ("less", least[0])
    # Prices that show it of one plan show it of each other one that has as few turns.
    return ("least", least[1])


def cheapest(table):
    return least_by(table, best(table)[1])
