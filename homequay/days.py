"""A day: a plan that is walked turn by turn, and made anew when rides are changed."""

from homequay.best import best
from homequay.cheapest import least_by
from homequay.errors import Gone, NoTurn
from homequay.rests import rest_of, walked_ahead_of
from homequay.walking import home_counts
from homequay.words import is_within


class Day:
    def __init__(self, table):
        self.turn = 0
        self.changed_at = 0
        # What was so when the last change was made: how many were home, by each turn ahead of it too, and what was
        # walked.
        self.home_ahead = 0
        self.counts_ahead = []
        self.walked_ahead = {}
        # The day's rides, those that have left among them, as a table's: so it refuses what is no ride of it.
        self.day_table = table.with_groups([])
        self.put_in_force(table)

    def put_in_force(self, table):
        told = best(table)
        self.in_force = table
        self.told_lines = told[2]
        self.plan = least_by(table, told[1])[0]

    def now(self):
        return self.turn

    def since(self):
        return self.changed_at

    def home_then(self):
        return self.home_ahead

    def home_now(self):
        return self.home_ahead + self.rest()[0]

    def table_now(self):
        return self.in_force

    def plan_now(self):
        return dict(self.plan)

    def lines(self):
        return [(list(groups), list(spots)) for groups, spots in self.told_lines]

    def standing(self):
        return [(place, turn, many) for name, place, turn, many in self.rest()[1].groups]

    def counts(self):
        counts = home_counts(self.in_force, self.plan)
        return self.counts_ahead + [self.home_ahead + many for many in counts[self.changed_at:]]

    def walked(self):
        walked = dict(self.walked_ahead)
        for key, many in walked_ahead_of(self.in_force, self.plan, self.turn).items():
            if key[0] != "out":
                walked[key] = many
        return walked

    def rest(self):
        return rest_of(self.in_force, self.plan, self.turn)

    def go(self, turn):
        if not is_within(turn, self.turn, self.in_force.turns):
            raise NoTurn(turn)
        self.turn = turn

    def refuse_gone(self, row):
        if row[2] < self.turn:
            raise Gone(row[0])

    # What was walked is kept ahead of all else, as it hangs on the plan that is no more in force then.
    def change_to(self, day_table):
        rest = self.rest()
        self.counts_ahead = self.counts()[:self.turn]
        self.walked_ahead = self.walked()
        self.home_ahead = self.home_ahead + rest[0]
        self.changed_at = self.turn
        self.day_table = day_table
        self.put_in_force(rest[1].with_rides([row for row in day_table.rides if row[2] >= self.turn]))

    def strike(self, ride):
        self.refuse_gone(self.day_table.ride_row(ride))
        self.change_to(self.day_table.without_ride(ride))

    def put_in(self, row):
        changed = self.day_table.with_ride(row)
        self.refuse_gone(row)
        self.change_to(changed)

    def seats_of(self, ride, seats):
        self.refuse_gone(self.day_table.ride_row(ride))
        self.change_to(self.day_table.with_seats(ride, seats))

    def later(self, ride, by):
        self.refuse_gone(self.day_table.ride_row(ride))
        self.change_to(self.day_table.with_later(ride, by))
