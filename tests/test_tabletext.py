"""The text of a table, and its reading [16], [17]."""

import itertools
import unittest

from homequay.errors import BadLine
from homequay.tables import Table
from homequay.tabletext import read_table, show_table
from tests.things import any_things, refusal, small_table

TEXT = """turns 4
place quay 2
place hill 0
home home
home inn
ride bus quay 0 hill 2 3
ride quay hill 2 home 3 2
ride late quay 3 inn 4 0
way path quay home 3 1
way far hill quay 5 9
group ann.1 quay 0 4
group quay home 4 1
group bob hill 3 0"""


def full_table():
    places = [("p" + str(at), 1000 if at else None) for at in range(14)]
    rides = [("ride" + str(at), "p1", at % 50, "p" + str(at % 12 + 2), 50, 1000) for at in range(80)]
    ways = [("way" + str(at), "p" + str(at % 13 + 1), "p0", 50 - at, at) for at in range(40)]
    groups = [("group.of." + str(at), "p" + str(at % 14), at % 51, 1) for at in range(300)]
    return Table(50, places, rides, ways, groups)


class ShowTest(unittest.TestCase):
    def test_sign_by_sign(self):
        self.assertEqual(show_table(small_table()), TEXT)

    def test_turns_alone(self):
        self.assertEqual(show_table(Table(50, [], [], [], [])), "turns 50")

    def test_homes_stand_among_the_places(self):
        table = Table(1, [("b", None), ("a", 1000), ("c", None)], [], [], [])
        self.assertEqual(show_table(table), "turns 1\nhome b\nplace a 1000\nhome c")

    def test_what_is_written_is_read_as_the_same(self):
        for table in (small_table(), full_table(), Table(1, [], [], [], [])):
            self.assertEqual(read_table(show_table(table)).told(), table.told())

    def test_the_table_stays(self):
        table = small_table()
        show_table(table)
        self.assertEqual(table.told(), small_table().told())


class ReadTest(unittest.TestCase):
    def test_the_parts_of_the_text(self):
        table = read_table(TEXT)
        self.assertIsInstance(table, Table)
        self.assertEqual(table.told(), small_table().told())

    def test_rows_in_another_order(self):
        rows = TEXT.split("\n")
        told = small_table().told()
        turned = read_table("\n".join(reversed(rows))).told()
        self.assertEqual(turned, (4,) + tuple(tuple(reversed(part)) for part in told[1:]))
        kinds = ("group", "way", "turns", "ride", "home", "place")
        regrouped = sorted(rows, key=lambda row: kinds.index(row.split(" ")[0]))
        places = (("home", None), ("inn", None), ("quay", 2), ("hill", 0))
        self.assertEqual(read_table("\n".join(regrouped)).told(), (4, places) + told[2:])

    def test_every_order_of_a_few_rows(self):
        rows = ["turns 2", "home h", "place a 1", "ride r a 0 h 2 3", "group g.x a 1 5"]
        for order in itertools.permutations(rows):
            table = read_table("\n".join(order))
            places = tuple(sorted((("h", None), ("a", 1)), key=lambda row: order.index(
                "home h" if row[0] == "h" else "place a 1")))
            self.assertEqual(table.told(), (2, places, (("r", "a", 0, "h", 2, 3),), (), (("g.x", "a", 1, 5),)))

    def test_places_called_by_words_of_rows(self):
        text = ("home turns\nplace home 3\nhome place\nplace ride 1\nplace way 2\nplace group 4\nturns 9\n"
                "ride ride home 0 turns 9 9\nride home ride 1 place 2 1\nway way way group 1 1\nway turns group home 2 2\n"
                "group group group 0 1\ngroup turns turns 9 2")
        self.assertEqual(read_table(text).told(), (
            9, (("turns", None), ("home", 3), ("place", None), ("ride", 1), ("way", 2), ("group", 4)),
            (("ride", "home", 0, "turns", 9, 9), ("home", "ride", 1, "place", 2, 1)),
            (("way", "way", "group", 1, 1), ("turns", "group", "home", 2, 2)),
            (("group", "group", 0, 1), ("turns", "turns", 9, 2))))


class RefusedTest(unittest.TestCase):
    def why(self, text):
        error = refusal(self, BadLine, read_table, text)
        return (error.row, error.why)

    def rows_why(self, *rows):
        return self.why("\n".join(rows))

    def test_what_is_no_text(self):
        for thing in any_things() + [["turns 1"], ("turns 1",), {"turns 1": 1}]:
            self.assertEqual(self.why(thing), (0, "form"), thing)

    def test_rows_without_signs(self):
        self.assertEqual(self.why(""), (0, "form"))
        self.assertEqual(self.why("\n"), (0, "form"))
        self.assertEqual(self.why("\nturns 1"), (0, "form"))
        self.assertEqual(self.why("turns 1\n"), (1, "form"))
        self.assertEqual(self.why("turns 1\n\nhome a"), (1, "form"))

    def test_blanks(self):
        for row in TEXT.split("\n"):
            self.assertEqual(self.rows_why("home zz", " " + row), (1, "form"))
            self.assertEqual(self.rows_why("home zz", row + " "), (1, "form"))
            for at, sign in enumerate(row):
                if sign == " ":
                    self.assertEqual(self.rows_why("home zz", row[:at] + " " + row[at:]), (1, "form"))
                    self.assertEqual(self.rows_why("home zz", row[:at] + "\t" + row[at + 1:]), (1, "form"))
        self.assertEqual(self.rows_why("turns 1", " "), (1, "form"))

    def test_words_too_many_or_too_few(self):
        for row in TEXT.split("\n"):
            words = row.split(" ")
            self.assertEqual(self.rows_why("home zz", row + " 1"), (1, "form"))
            self.assertEqual(self.rows_why("home zz", row + " a"), (1, "form"))
            self.assertEqual(self.rows_why("home zz", " ".join(words[:-1])), (1, "form"))
            self.assertEqual(self.rows_why("home zz", words[0]), (1, "form"))

    def test_first_words(self):
        for row in ("Turns 4", "turn 4", "places a 1", "a 1", "4", "homes a", "Home a", "rides a", "~"):
            self.assertEqual(self.rows_why("turns 4", row), (1, "form"), row)

    def test_each_word_of_each_row(self):
        numbers = {"turns": (1,), "place": (2,), "home": (), "ride": (3, 5, 6), "way": (4, 5), "group": (3, 4)}
        for number, row in enumerate(TEXT.split("\n")):
            words = row.split(" ")
            for at in range(1, len(words)):
                wrong = ["A", "1a", "a_b", ".a", "a:b"]
                if at in numbers[words[0]]:
                    wrong += ["a", "-1", "+1", "01", "00", "10000", "1.", "None"]
                else:
                    wrong += ["1", "abcdefghijklm"]
                    if (words[0], at) != ("group", 1):
                        wrong += ["a.b", "abcdefghi"]
                for word in wrong:
                    rows = TEXT.split("\n")
                    rows[number] = " ".join(words[:at] + [word] + words[at + 1:])
                    self.assertEqual(self.rows_why(*rows), (number, "form"), rows[number])

    def test_names_at_their_lengths(self):
        text = "turns 1\nplace abcdefgh 1\ngroup abcdefgh.123 abcdefgh 0 1"
        self.assertEqual(read_table(text).told(), (
            1, (("abcdefgh", 1),), (), (), (("abcdefgh.123", "abcdefgh", 0, 1),)))

    def test_the_first_row_without_a_form(self):
        self.assertEqual(self.rows_why("turns 1", "turns 1", "home a", "x", "y"), (3, "form"))
        self.assertEqual(self.rows_why("home a", "home a", "place A"), (2, "form"))

    def test_no_row_of_turns(self):
        self.assertEqual(self.why("home a"), (1, "turns"))
        self.assertEqual(self.rows_why("home a", "home a", "place b 9999"), (3, "turns"))

    def test_two_rows_of_turns(self):
        self.assertEqual(self.rows_why("turns 1", "turns 1"), (1, "turns"))
        self.assertEqual(self.rows_why("home a", "turns 0", "home a", "turns 1", "turns 1"), (3, "turns"))

    def test_turns_that_are_none(self):
        for number in ("0", "51", "9999"):
            self.assertEqual(self.rows_why("home a", "home a", "turns " + number), (2, "number"))
        for number in ("1", "50"):
            self.assertEqual(read_table("turns " + number).turns, int(number))

    def test_rows_by_which_it_is_no_table(self):
        head = ["ride ok a 0 h 1 1", "home h", "turns 4", "group ok a 0 200", "place a 1", "way ok a h 1 1", "place b 0"]
        for row, why in (("place h 1", "double"), ("home a", "double"), ("place c 1001", "number"),
                         ("ride ok a 0 h 1 1", "double"), ("ride r c 0 h 1 1", "place"), ("ride r a 0 c 1 1", "place"),
                         ("ride r h 0 a 1 1", "home"), ("ride r a 0 a 1 1", "alike"), ("ride r a 4 h 4 1", "turn"),
                         ("ride r a 2 h 2 1", "turn"), ("ride r a 0 h 5 1", "turn"), ("ride r a 0 h 1 1001", "number"),
                         ("way ok a h 1 1", "double"), ("way w c h 1 1", "place"), ("way w h a 1 1", "home"),
                         ("way w a a 1 1", "alike"), ("way w a h 0 1", "number"), ("way w a h 51 1", "number"),
                         ("way w a h 1 1001", "number"), ("group ok a 0 1", "double"), ("group g c 0 1", "place"),
                         ("group g a 5 1", "turn"), ("group g a 0 301", "number"), ("group g a 0 101", "people")):
            self.assertEqual(self.rows_why(*head, row), (7, why), row)
            self.assertEqual(self.rows_why(*head, row, row), (7, why), row)
            read_table("\n".join(head))

    def test_parts_go_ahead_of_rows(self):
        rows = ["group g a 0 301", "way w a a 1 1", "ride r a 9 b 9 1", "place a 1001", "turns 51", "place b 1"]
        mended = ["group g a 0 300", "way w a b 1 1", "ride r a 0 b 1 1", "place a 1", "turns 50"]
        for number, why in ((4, "number"), (3, "number"), (2, "turn"), (1, "alike"), (0, "number")):
            self.assertEqual(self.rows_why(*rows), (number, why))
            rows[number] = mended[number]
        self.assertEqual(read_table("\n".join(rows)).people(), 300)

    def test_the_bound_of_each_part_and_one_beyond(self):
        head = ["turns 4", "place zz 1", "home zzz"]
        for bound, row in ((12, "place {} 1"), (12, "home {}"), (80, "ride {} zz 0 zzz 1 1"),
                           (40, "way {} zz zzz 1 1"), (300, "group {} zz 0 1")):
            rows = [row.replace("{}", "n" + str(at)) for at in range(bound + 3)]
            read_table("\n".join(head + rows[:bound]))
            self.assertEqual(self.rows_why(*head, *rows[:bound + 1]), (3 + bound, "many"))
            self.assertEqual(self.rows_why(*head, *rows), (3 + bound, "many"))
            self.assertEqual(self.rows_why(*rows[:bound], *head, *rows[bound:]), (bound + 3, "many"))


if __name__ == "__main__":
    unittest.main()
