"""Plans by which as many people are home as by any plan: by one turn, and by every turn at once."""

from homequay.lines import is_line, refuse_no_turn
from homequay.sending import Sending
from homequay.walking import home_counts, is_plan
from homequay.webs import home_spots_by


# Whether one person more, whoever it is, can be sent home by the turn.
def one_more_by(table, sending, turn):
    return sending.more([row[0] for row in table.groups], home_spots_by(table, turn))


# Sends home by the turn as many more as can be, and tells the line at which that ended.
def line_by(table, sending, turn):
    while one_more_by(table, sending, turn):
        pass
    return sending.near()


def best_by(table, turn):
    refuse_no_turn(table, turn)
    sending = Sending(table)
    line = line_by(table, sending, turn)
    plan = sending.sent()
    return (plan, home_counts(table, plan)[turn], line)


def best(table):
    sending = Sending(table)
    # One person more changes nothing at any other home spot, so a turn stays best while later ones are filled.
    lines = [line_by(table, sending, turn) for turn in range(table.turns + 1)]
    plan = sending.sent()
    return (plan, home_counts(table, plan), lines)


def is_best(table, plan, lines):
    if not is_plan(table, plan):
        return False
    if not isinstance(lines, list) or len(lines) != table.turns + 1:
        return False
    counts = home_counts(table, plan)
    return all([is_line(table, turn, lines[turn], counts[turn]) for turn in range(table.turns + 1)])
