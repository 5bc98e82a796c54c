"""A desk: the day of a table, told and asked by rows of text."""

from homequay.allhome import all_home
from homequay.best import best_by
from homequay.days import Day
from homequay.errors import NoRow
from homequay.journeys import journeys_of
from homequay.lines import refuse_no_turn
from homequay.ranks import ranked
from homequay.saying import line_text, pairs_text, read_saying, rows_text, words_text
from homequay.seats import seat_less, seat_more
from homequay.steps import steps_of
from homequay.tabletext import read_table, show_table
from homequay.walking import turns_of


# Each of these four tells None where the row is not one of its kind.
def deed_answer(day, word, things):
    if word == "go":
        day.go(things[0])
    elif word == "strike":
        day.strike(things[0])
    elif word == "put":
        day.put_in(tuple(things))
    elif word == "seats":
        day.seats_of(things[0], things[1])
    elif word == "later":
        day.later(things[0], things[1])
    else:
        return None
    return "ok"


def number_answer(day, word):
    if word == "now":
        return words_text([day.now()])
    if word == "since":
        return words_text([day.since()])
    if word == "home":
        return words_text([day.home_now()])
    if word == "counts":
        return words_text(day.counts())
    if word == "turns":
        return words_text([turns_of(day.table_now(), day.plan_now())])
    if word == "standing":
        return rows_text(day.standing())
    return None


def plan_text(table, plan):
    keys = [step.key() for step in steps_of(table)]
    return rows_text([key + (plan[key],) for key in keys if key in plan])


def line_by_turn(day, turn):
    refuse_no_turn(day.table_now(), turn)
    return line_text(day.lines()[turn])


def journey_text(table, plan, group, number):
    # Refused where there is no such group.
    table.group_row(group)
    found = [keys for name, at, keys in journeys_of(table, plan) if (name, at) == (group, number)]
    return rows_text(found[0]) if len(found) > 0 else "stays"


def paper_answer(day, word, things):
    table = day.table_now()
    if word == "table":
        return rows_text([row.split(" ") for row in show_table(table).split("\n")])
    if word == "plan":
        return plan_text(table, day.plan_now())
    if word == "line":
        return line_by_turn(day, things[0])
    if word == "journey":
        return journey_text(table, day.plan_now(), things[0], things[1])
    return None


def question_answer(table, word, things):
    if word == "by":
        return words_text([best_by(table, things[0])[1]])
    if word == "all":
        return words_text(all_home(table)[:2])
    if word == "more":
        return words_text([seat_more(table, things[0], things[1])[0]])
    if word == "less":
        return words_text([seat_less(table, things[0], things[1])[0]])
    return pairs_text(ranked(table, things[0], things[1:])[0])


class Desk:
    def __init__(self, text):
        self.day = Day(read_table(text))

    def say(self, row):
        said = read_saying(row)
        if said is None:
            raise NoRow(row)
        word = said[0]
        things = said[1:]
        answer = deed_answer(self.day, word, things) or number_answer(self.day, word)
        if answer is None:
            answer = paper_answer(self.day, word, things) or question_answer(self.day.table_now(), word, things)
        return answer
