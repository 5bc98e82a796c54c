"""What a seat more, and a seat less, of a ride is worth by a turn, with a plan and a line that show it."""

from homequay.best import best_by, one_more_by
from homequay.errors import BadTable, NoSeat, QuayError
from homequay.journeys import joined, journeys_of
from homequay.lines import is_line, refuse_no_turn
from homequay.sending import Sending
from homequay.walking import home_counts, is_plan
from homequay.words import is_within


def table_with(table, ride, turn, by):
    row = table.ride_row(ride)
    refuse_no_turn(table, turn)
    try:
        return table.with_seats(ride, row[5] + by)
    except BadTable:
        raise NoSeat(ride) from None


def crosses(table, ride, line):
    row = table.ride_row(ride)
    return (row[1], row[2]) in line[1] and (row[3], row[4]) not in line[1]


# What is told of a seat more, from what is told of the table and the turn (best_by).
def more_from(table, ride, turn, told):
    wider = table_with(table, ride, turn, 1)
    if not crosses(table, ride, told[2]):
        return (0, told[0], told[2])
    sending = Sending(wider, told[0])
    if one_more_by(wider, sending, turn):
        return (1, sending.sent(), told[2])
    # As many as this line lets can be home without the seat, so it would let more if the ride crossed it.
    return (0, told[0], sending.near())


# The plan without one of those who take the step.
def with_one_fewer(table, plan, key):
    journeys = journeys_of(table, plan)
    takers = [at for at, journey in enumerate(journeys) if key in journey[2]]
    return joined(table, journeys[:takers[0]] + journeys[takers[0] + 1:])


def less_from(table, ride, turn, told):
    fewer = table_with(table, ride, turn, -1)
    key = ("ride", ride)
    if told[0].get(key, 0) < table.ride_row(ride)[5]:
        return (0, told[0], told[2])
    sending = Sending(fewer, with_one_fewer(table, told[0], key))
    if one_more_by(fewer, sending, turn):
        return (0, sending.sent(), told[2])
    # One more can be home with the seat than this line lets without it, so the ride crosses it.
    return (1, told[0], sending.near())


def seat_more(table, ride, turn):
    # Refused ahead of all reckoning, as the ride goes ahead of the turn.
    table_with(table, ride, turn, 1)
    return more_from(table, ride, turn, best_by(table, turn))


def seat_less(table, ride, turn):
    table_with(table, ride, turn, -1)
    return less_from(table, ride, turn, best_by(table, turn))


def more_worth(table, ride, turn, told):
    try:
        return more_from(table, ride, turn, told)[0]
    except NoSeat:
        return 0


def less_worth(table, ride, turn, told):
    try:
        return less_from(table, ride, turn, told)[0]
    except NoSeat:
        return 0


def worth(table, turn):
    told = best_by(table, turn)
    names = [row[0] for row in table.rides]
    return [(ride, more_worth(table, ride, turn, told), less_worth(table, ride, turn, told)) for ride in names]


def has_form(told):
    return isinstance(told, tuple) and len(told) == 3 and is_within(told[0], 0, 1)


# Whether the plan is one of the first table, and the line one of the second that lets so many as the plan has home by
# the turn, or fewer by what is told.
def shown_by(table, plan, other, line, turn, fewer):
    return is_plan(table, plan) and is_line(other, turn, line, home_counts(table, plan)[turn] - fewer)


def more_holds(table, ride, turn, told):
    try:
        wider = table_with(table, ride, turn, 1)
    except QuayError:
        return False
    if not has_form(told):
        return False
    if told[0] == 1:
        return shown_by(wider, told[1], table, told[2], turn, 1)
    return shown_by(table, told[1], table, told[2], turn, 0) and not crosses(table, ride, told[2])


def less_holds(table, ride, turn, told):
    try:
        fewer = table_with(table, ride, turn, -1)
    except QuayError:
        return False
    if not has_form(told):
        return False
    if told[0] == 1:
        return shown_by(table, told[1], table, told[2], turn, 0) and crosses(table, ride, told[2])
    return shown_by(fewer, told[1], table, told[2], turn, 0)
