"""What is no table, and which refusal of it is told [4], [13]."""

import unittest

from homequay.errors import BadTable
from homequay.tables import Table
from tests.things import any_things, refusal

PLACES = [("a", 5), ("b", 0), ("h", None)]
RIDE = ("r", "a", 1, "b", 3, 4)
WAY = ("w", "a", "b", 2, 3)
GROUP = ("g", "a", 2, 6)
BOUNDS = {"places": 14, "rides": 80, "ways": 40, "groups": 300}


def changed(row, at, thing):
    return row[:at] + (thing,) + row[at + 1:]


def named(row, many):
    return [changed(row, 0, "n" + str(number)) for number in range(many)]


class BadTablesTest(unittest.TestCase):
    def why(self, turns=4, places=PLACES, rides=(), ways=(), groups=()):
        error = refusal(self, BadTable, Table, turns, places, rides, ways, groups)
        return (error.part, error.at, error.why)

    def part_why(self, part, rows):
        return self.why(**{part: rows})

    def each_row_why(self, part, row, good, at, things, word):
        for thing in things:
            wrong = changed(row, at, thing)
            self.assertEqual(self.part_why(part, [wrong]), (part, 0, word), wrong)
            self.assertEqual(self.part_why(part, good + [wrong]), (part, len(good), word), wrong)

    def each_row_stands(self, part, row, at, things):
        for thing in things:
            rows = [changed(row, at, thing)]
            table = Table(4, rows if part == "places" else PLACES, *[
                rows if name == part else [] for name in ("rides", "ways", "groups")])
            self.assertEqual(getattr(table, part), tuple(rows))


class TurnsTest(BadTablesTest):
    def test_the_bounds(self):
        for turns in (0, -1, 51, 10 ** 29, True, False, None, "4", [4], (4,), {}):
            self.assertEqual(self.why(turns=turns), ("turns", None, "number"), turns)
        for turns in (1, 2, 49, 50):
            self.assertEqual(Table(turns, [], [], [], []).turns, turns)

    def test_any_thing(self):
        for thing in any_things():
            if thing.__class__ is not int or not 1 <= thing <= 50:
                self.assertEqual(self.why(turns=thing), ("turns", None, "number"), thing)


class PartsTest(BadTablesTest):
    def test_no_list_and_no_tuple(self):
        for part in BOUNDS:
            for thing in any_things():
                if not isinstance(thing, (list, tuple)):
                    self.assertEqual(self.part_why(part, thing), (part, None, "form"), thing)

    def test_parts_that_are_empty(self):
        self.assertEqual(Table(1, [], (), [], ()).told(), (1, (), (), (), ()))

    def test_the_bound_of_rows_and_one_beyond(self):
        rows = {"places": ("a", 0), "rides": RIDE, "ways": WAY, "groups": ("g", "a", 0, 1)}
        for part, bound in BOUNDS.items():
            for kind in (list, tuple):
                many = kind(named(rows[part], bound + 1))
                self.assertEqual(self.part_why(part, many), (part, bound, "many"))
                self.assertEqual(self.part_why(part, kind(named(rows[part], bound + 40))), (part, bound, "many"))
            table = Table(4, named(("a", 0), 14) if part == "places" else PLACES, *[
                named(rows[name], BOUNDS[name]) if name == part else [] for name in ("rides", "ways", "groups")])
            self.assertEqual(len(getattr(table, part)), bound)

    def test_many_goes_ahead_of_the_rows(self):
        for part, bound in BOUNDS.items():
            self.assertEqual(self.part_why(part, [None] * (bound + 1)), (part, bound, "many"))
            self.assertEqual(self.part_why(part, [None] * bound), (part, 0, "form"))

    def test_rows_that_are_no_tuples_of_their_size(self):
        sizes = {"places": 2, "rides": 6, "ways": 5, "groups": 4}
        for part, size in sizes.items():
            for thing in any_things():
                if not isinstance(thing, tuple) or len(thing) != size:
                    self.assertEqual(self.part_why(part, [thing]), (part, 0, "form"), thing)
                    self.assertEqual(self.part_why(part, (thing,)), (part, 0, "form"), thing)
        for part, row in (("places", ("c", 1)), ("rides", RIDE), ("ways", WAY), ("groups", GROUP)):
            for wrong in (list(row), row[:-1], row + (0,), ()):
                self.assertEqual(self.part_why(part, [wrong]), (part, 0, "form"))

    def test_names(self):
        for part, row in (("places", ("c", 1)), ("rides", RIDE), ("ways", WAY)):
            good = [changed(row, 0, "abcdefgh")]
            self.each_row_why(part, row, good, 0, ["", "1a", "A", "a.b", "abcdefghi", None, True, 3, ["c"], {}], "name")
            self.each_row_stands(part, row, 0, ["a" if part != "places" else "z", "z9", "abcdefgh"])
        self.each_row_why("groups", GROUP, [("ok", "a", 0, 0)], 0,
                          ["", "1a", ".a", "A", "abcdefghijklm", None, True, 3, ["c"], {}], "name")
        self.each_row_stands("groups", GROUP, 0, ["a", "a.b", "abcdefghijkl"])

    def test_double_names(self):
        for part, row in (("places", ("c", 1)), ("rides", RIDE), ("ways", WAY), ("groups", ("g", "a", 0, 1))):
            other = changed(row, 0, "other")
            self.assertEqual(self.part_why(part, [row, row]), (part, 1, "double"))
            self.assertEqual(self.part_why(part, [row, other, row, other]), (part, 2, "double"))

    def test_names_of_several_parts_are_apart(self):
        rows = [changed(RIDE, 0, "a")], [changed(WAY, 0, "a")], [changed(GROUP, 0, "a")]
        self.assertEqual(Table(4, PLACES, *rows).told()[2:], tuple(tuple(part) for part in rows))


class PlacesTest(BadTablesTest):
    def test_rooms(self):
        self.each_row_why("places", ("c", 1), [("d", None)], 1, [-1, 1001, 10 ** 29, True, False, "1", [], (), {}], "number")
        self.each_row_stands("places", ("c", 1), 1, [0, 1, 1000, None])


class RidesTest(BadTablesTest):
    good = [("ok", "b", 0, "h", 4, 1000)]

    def test_places(self):
        things = ["c", "", "A", None, True, 0, ["a"], ("a",), {}]
        self.each_row_why("rides", RIDE, self.good, 1, things, "place")
        self.each_row_why("rides", RIDE, self.good, 3, things, "place")

    def test_homes_and_ends_alike(self):
        self.each_row_why("rides", RIDE, self.good, 1, ["h"], "home")
        self.each_row_why("rides", RIDE, self.good, 1, ["b"], "alike")
        self.each_row_why("rides", changed(RIDE, 3, "h"), self.good, 1, ["h"], "home")
        self.each_row_why("rides", changed(RIDE, 1, "h"), self.good, 3, ["c"], "place")
        self.each_row_stands("rides", RIDE, 3, ["h", "b"])

    def test_turns(self):
        self.each_row_why("rides", RIDE, self.good, 2, [-1, 3, 4, 5, True, False, None, "1", [], {}, (1,)], "turn")
        self.each_row_why("rides", RIDE, self.good, 4, [-1, 0, 1, 5, True, False, None, "3", [], {}, (3,)], "turn")
        self.each_row_why("rides", changed(RIDE, 2, 0), self.good, 4, [0, True], "turn")
        self.each_row_why("rides", changed(RIDE, 4, 4), self.good, 2, [4], "turn")
        self.each_row_stands("rides", RIDE, 2, [0, 1, 2])
        self.each_row_stands("rides", RIDE, 4, [2, 3, 4])
        self.each_row_stands("rides", changed(RIDE, 4, 4), 2, [3])

    def test_seats(self):
        self.each_row_why("rides", RIDE, self.good, 5, [-1, 1001, 10 ** 29, True, False, None, "1", [], {}], "number")
        self.each_row_stands("rides", RIDE, 5, [0, 1, 1000])

    def test_words_in_their_order(self):
        row = ("r", "h", 9, "h", 9, -1)
        self.assertEqual(self.why(rides=[changed(changed(row, 0, "R"), 1, "c")]), ("rides", 0, "name"))
        self.assertEqual(self.why(rides=[RIDE, changed(row, 1, "c")]), ("rides", 1, "double"))
        self.assertEqual(self.why(rides=[changed(row, 3, "c")]), ("rides", 0, "place"))
        self.assertEqual(self.why(rides=[row]), ("rides", 0, "home"))
        self.assertEqual(self.why(rides=[("r", "a", 9, "a", 9, -1)]), ("rides", 0, "alike"))
        self.assertEqual(self.why(rides=[("r", "a", 9, "b", 9, -1)]), ("rides", 0, "turn"))
        self.assertEqual(self.why(rides=[("r", "a", 1, "b", 2, -1)]), ("rides", 0, "number"))


class WaysTest(BadTablesTest):
    good = [("ok", "b", "h", 50, 1000)]

    def test_places(self):
        things = ["c", "", "A", None, True, 0, ["a"], ("a",), {}]
        self.each_row_why("ways", WAY, self.good, 1, things, "place")
        self.each_row_why("ways", WAY, self.good, 2, things, "place")

    def test_homes_and_ends_alike(self):
        self.each_row_why("ways", WAY, self.good, 1, ["h"], "home")
        self.each_row_why("ways", WAY, self.good, 1, ["b"], "alike")
        self.each_row_why("ways", changed(WAY, 2, "h"), self.good, 1, ["h"], "home")
        self.each_row_stands("ways", WAY, 2, ["h", "b"])

    def test_numbers(self):
        self.each_row_why("ways", WAY, self.good, 3, [-1, 0, 51, True, False, None, "1", [], {}], "number")
        self.each_row_why("ways", WAY, self.good, 4, [-1, 1001, True, False, None, "1", [], {}], "number")
        self.each_row_stands("ways", WAY, 3, [1, 4, 5, 50])
        self.each_row_stands("ways", WAY, 4, [0, 1, 1000])

    def test_words_in_their_order(self):
        self.assertEqual(self.why(ways=[("W", "c", "h", 0, -1)]), ("ways", 0, "name"))
        self.assertEqual(self.why(ways=[WAY, ("w", "c", "h", 0, -1)]), ("ways", 1, "double"))
        self.assertEqual(self.why(ways=[("w", "h", "c", 0, -1)]), ("ways", 0, "place"))
        self.assertEqual(self.why(ways=[("w", "h", "h", 0, -1)]), ("ways", 0, "home"))
        self.assertEqual(self.why(ways=[("w", "a", "a", 0, -1)]), ("ways", 0, "alike"))
        self.assertEqual(self.why(ways=[("w", "a", "b", 0, -1)]), ("ways", 0, "number"))


class GroupsTest(BadTablesTest):
    good = [("ok", "h", 4, 3), ("ok2", "b", 0, 0)]

    def test_places(self):
        self.each_row_why("groups", GROUP, self.good, 1, ["c", "", None, True, 0, ["a"], ("a",), {}], "place")
        self.each_row_stands("groups", GROUP, 1, ["a", "b", "h"])

    def test_turns(self):
        self.each_row_why("groups", GROUP, self.good, 2, [-1, 5, True, False, None, "1", [], {}], "turn")
        self.each_row_stands("groups", GROUP, 2, [0, 1, 4])

    def test_numbers(self):
        self.each_row_why("groups", GROUP, self.good, 3, [-1, 301, 10 ** 29, True, False, None, "1", [], {}], "number")
        self.each_row_stands("groups", GROUP, 3, [0, 1, 300])

    def test_people(self):
        rows = [("g1", "a", 0, 200), ("g2", "b", 1, 100), ("g3", "h", 0, 0)]
        self.assertEqual(Table(4, PLACES, [], [], rows).people(), 300)
        self.assertEqual(self.why(groups=rows + [("g4", "a", 0, 1)]), ("groups", 3, "people"))
        self.assertEqual(self.why(groups=[("g1", "a", 0, 1), ("g2", "a", 0, 300)]), ("groups", 1, "people"))
        self.assertEqual(self.why(groups=[("g1", "a", 0, 1), ("g2", "a", 0, 301)]), ("groups", 1, "number"))

    def test_words_in_their_order(self):
        ahead = [("g", "a", 0, 300)]
        self.assertEqual(self.why(groups=ahead + [("G", "c", 9, 1)]), ("groups", 1, "name"))
        self.assertEqual(self.why(groups=ahead + [("g", "c", 9, 301)]), ("groups", 1, "double"))
        self.assertEqual(self.why(groups=ahead + [("f", "c", 9, 301)]), ("groups", 1, "place"))
        self.assertEqual(self.why(groups=ahead + [("f", "a", 9, 301)]), ("groups", 1, "turn"))
        self.assertEqual(self.why(groups=ahead + [("f", "a", 4, 301)]), ("groups", 1, "number"))
        self.assertEqual(self.why(groups=ahead + [("f", "a", 4, 1), None]), ("groups", 1, "people"))


class SeveralFaultsTest(BadTablesTest):
    def test_between_parts(self):
        wrong = {"turns": 0, "places": None, "rides": {}, "ways": "w", "groups": 3}
        for part in ("turns", "places", "rides", "ways", "groups"):
            word = "number" if part == "turns" else "form"
            self.assertEqual(self.why(**wrong), (part, None, word))
            wrong.pop(part)

    def test_a_row_ahead_of_a_later_part(self):
        self.assertEqual(self.why(places=[("a", -1)], rides=None), ("places", 0, "number"))
        self.assertEqual(self.why(rides=[RIDE, RIDE], ways=None), ("rides", 1, "double"))
        self.assertEqual(self.why(ways=[None], groups=[None] * 301), ("ways", 0, "form"))

    def test_between_rows(self):
        self.assertEqual(self.why(places=[("a", -1), None]), ("places", 0, "number"))
        self.assertEqual(self.why(rides=[changed(RIDE, 5, -1), None]), ("rides", 0, "number"))
        self.assertEqual(self.why(ways=[changed(WAY, 4, -1), None]), ("ways", 0, "number"))
        self.assertEqual(self.why(groups=[changed(GROUP, 3, -1), None]), ("groups", 0, "number"))

    def test_within_one_row_of_places(self):
        self.assertEqual(self.why(places=[("A", -1)]), ("places", 0, "name"))
        self.assertEqual(self.why(places=[("a", 1), ("a", -1)]), ("places", 1, "double"))


if __name__ == "__main__":
    unittest.main()
