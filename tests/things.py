"""Things that the tests share: things of every kind, tables, and what the document tells, reckoned by hand."""

import random

from homequay.tables import Table

# Made anew at each call, so that no test can spoil another's.
def any_things():
    return [
        None, True, False, 0, 1, -1, 7, 10 ** 29, -(10 ** 29),
        "", " ", "a", "A", "nobody", "0", "a b", "a\nb", "~", "x" * 20000,
        [], [[]], ["a"], [1, True, None], [("a", 0)], [[[[[[[[[[]]]]]]]]]],
        (), ("a",), ("a", 0), ("a", True), ("a", 0, 0), ([], {}), ("a", [0]), ({}, 0), (None, None),
        ((((((((((),),),),),),),),),),
        {}, {"a": 1}, {1: []}, {("a", 0): {}}, {None: None},
    ]


TURNS = 4
PLACES = (("quay", 2), ("hill", 0), ("home", None), ("inn", None))
RIDES = (("bus", "quay", 0, "hill", 2, 3), ("quay", "hill", 2, "home", 3, 2), ("late", "quay", 3, "inn", 4, 0))
WAYS = (("path", "quay", "home", 3, 1), ("far", "hill", "quay", 5, 9))
GROUPS = (("ann.1", "quay", 0, 4), ("quay", "home", 4, 1), ("bob", "hill", 3, 0))


def small_table():
    return Table(TURNS, PLACES, RIDES, WAYS, GROUPS)


def refusal(case, error, deed, *things):
    """The error by which the deed refuses the things, which must be of just this class."""
    with case.assertRaises(error) as caught:
        deed(*things)
    case.assertEqual(caught.exception.__class__, error)
    return caught.exception


def chance_table(seed, people=6, turns=5):
    """A table made by chance, the same for the same seed: narrow enough for people to stand in one another's way."""
    chance = random.Random(seed)
    last = chance.randint(2, turns)
    places = [(name, chance.choice([0, 0, 1, 3])) for name in ("a", "b", "c")] + [("h", None), ("i", None)]
    chance.shuffle(places)
    starts = [name for name, room in places if room is not None]
    rides = []
    ways = []
    for number in range(chance.randint(1, 11)):
        leave = chance.randint(0, last - 1)
        start, goal = two_places(chance, starts, places)
        rides.append((f"r{number}", start, leave, goal, chance.randint(leave + 1, last), chance.randint(0, 2)))
    for number in range(chance.randint(0, 4)):
        start, goal = two_places(chance, starts, places)
        ways.append((f"w{number}", start, goal, chance.randint(1, 3), chance.randint(0, 2)))
    groups = []
    while people > 0:
        many = chance.randint(0, min(people, 3))
        place = chance.choice(starts * 3 + ["h"])
        groups.append((f"g.{len(groups)}", place, chance.choice([0, 0, 0, 1, last]), many))
        people -= max(many, 1)
    return Table(last, places, rides, ways, groups)


def two_places(chance, starts, places):
    start = chance.choice(starts)
    return start, chance.choice([name for name, room in places if name != start])


def chance_tables(many, people=6, turns=5):
    return [chance_table(seed, people, turns) for seed in range(many)]


def full_table():
    """A table at its bounds: 50 turns, 14 places, 80 rides, 40 ways, 300 groups, 300 people."""
    places = [(f"p{number}", number * 3 % 7) for number in range(12)] + [("north", None), ("south", None)]
    names = [name for name, room in places]
    rides = []
    for number in range(80):
        start = number * 5 % 12
        leave = number * 7 % 45
        goal = names[(start + 1 + number * 3 % 13) % 14]
        rides.append((f"ride{number}", names[start], leave, goal, leave + 1 + number % 5, 1 + number % 6))
    ways = []
    for number in range(40):
        start = number % 12
        ways.append((f"way{number}", names[start], names[(start + 1 + number * 5 % 13) % 14], 1 + number % 9, number % 2))
    groups = [(f"g.{number}", names[number * 11 % 14], number * 13 % 20, 1) for number in range(300)]
    return Table(50, places, rides, ways, groups)


def bare_tables():
    """Tables without people, rides, ways or homes, and with nothing at all."""
    places = [("a", 1), ("h", None)]
    rides = [("r", "a", 0, "h", 2, 1)]
    ways = [("w", "a", "h", 1, 1)]
    groups = [("g", "a", 0, 3)]
    return [
        Table(3, places, rides, ways, []), Table(3, places, rides, ways, [("g", "a", 0, 0)]),
        Table(3, places, [], ways, groups), Table(3, places, rides, [], groups), Table(3, places, [], [], groups),
        Table(3, [("a", 1), ("h", 1)], rides, ways, groups), Table(3, [("h", None)], [], [], [("g", "h", 1, 2)]),
        Table(1, [], [], [], []), Table(50, [("a", 0)], [], [], [("g", "a", 50, 300)]),
    ]


def moves_by_hand(table):
    """(key, tail, head, room, price) of each ride, walk and wait."""
    moves = []
    for name, start, leave, goal, come, seats in table.rides:
        moves.append((("ride", name), (start, leave), (goal, come), seats, come - leave))
    for name, start, goal, long, wide in table.ways:
        for turn in range(table.turns - long + 1):
            moves.append((("walk", name, turn), (start, turn), (goal, turn + long), wide, long))
    for name, room in table.places:
        if room is not None:
            for turn in range(table.turns):
                moves.append((("wait", name, turn), (name, turn), (name, turn + 1), room, 1))
    return moves


def outs_by_hand(table):
    """(key, tail, head, None, 0) of each setting out."""
    return [(("out", name, turn), name, (place, turn), None, 0)
            for name, place, first, many in table.groups for turn in range(first, table.turns + 1)]


def rooms_by_hand(table, line):
    near = set(line[0]) | set(line[1])
    if [key for key, tail, head, room, price in outs_by_hand(table) if tail in near and head not in near]:
        return None
    return sum(room for key, tail, head, room, price in moves_by_hand(table) if tail in near and head not in near)


def lets_by_hand(table, turn, line):
    rooms = rooms_by_hand(table, line)
    if rooms is None or [spot for spot in line[1] if spot[0] in table.homes() and spot[1] <= turn]:
        return None
    return rooms + sum(many for name, place, first, many in table.groups if name not in line[0])


def in_order(table, line):
    """Whether a line stands in the order of told ones, no thing twice."""
    names = [row[0] for row in table.places]
    near = set(line[0]) | set(line[1])
    groups = [row[0] for row in table.groups if row[0] in near]
    spots = [(name, turn) for turn in range(table.turns + 1) for name in names if (name, turn) in near]
    return line == (groups, spots)


def set_out_by_hand(plan):
    """How many set out of each group of which anybody does."""
    out = {}
    for key, many in plan.items():
        if key[0] == "out":
            out[key[1]] = out.get(key[1], 0) + many
    return out


def prices_by_hand(table, plan, prices):
    """Whether prices of the right form hold for a plan that can be walked, row by row of [53]."""
    holds = []
    come = set()
    for key, tail, head, room, price in outs_by_hand(table) + moves_by_hand(table):
        many = plan.get(key, 0)
        if room is None or many < room:
            holds.append(prices[head] <= prices[tail] + price)
        if many > 0:
            holds.append(prices[head] >= prices[tail] + price)
            come.add(head)
    out = set_out_by_hand(plan)
    for name, place, first, many in table.groups:
        holds.append(prices[name] <= 0 or out.get(name, 0) == many)
        holds.append(prices[name] >= 0 or out.get(name, 0) == 0)
    for home in table.homes():
        for other in table.homes():
            for turn in range(table.turns + 1):
                holds.append((home, turn) not in come or prices[(home, turn)] <= prices[(other, turn)])
    return all(holds)


def paths_home(table, node):
    """Every way from a node to a home, as a list of (key, price) and the turn at which it comes home."""
    if node[0] in table.homes():
        return [([], node[1])]
    paths = []
    for key, tail, head, room, price in moves_by_hand(table):
        if tail == node and room > 0:
            paths += [([(key, price)] + steps, turn) for steps, turn in paths_home(table, head)]
    return paths


def least_turns_by_hand(table):
    """From how many come home at each turn, as a tuple, to the least turns of any plan by which they do."""
    rooms = {key: room for key, tail, head, room, price in moves_by_hand(table)}
    found = {((), (0,) * (table.turns + 1)): 0}
    for name, place, first, many in table.groups:
        paths = [path for turn in range(first, table.turns + 1) for path in paths_home(table, (place, turn))]
        for person in range(many):
            further = dict(found)
            for (taken, comers), turns in found.items():
                for steps, turn in paths:
                    used = dict(taken)
                    for key, price in steps:
                        used[key] = used.get(key, 0) + 1
                    if all(used[key] <= rooms[key] for key, price in steps):
                        now = tuple(number + (at == turn) for at, number in enumerate(comers))
                        state = (tuple(sorted(used.items())), now)
                        price = turns + sum(price for key, price in steps)
                        further[state] = min(price, further.get(state, price))
            found = further
    least = {}
    for (taken, comers), turns in found.items():
        least[comers] = min(turns, least.get(comers, turns))
    return least


def chance_plan(table, chance):
    """A plan that can be walked, made by chance of ways home, with detours and waits among them."""
    rooms = {key: room for key, tail, head, room, price in moves_by_hand(table)}
    plan = {}
    for name, place, first, many in table.groups:
        paths = []
        for turn in range(first, table.turns + 1):
            for steps, come in paths_home(table, (place, turn)):
                paths.append([("out", name, turn)] + [key for key, price in steps])
        for person in range(many):
            keys = chance.choice(paths or [[]])
            if all(plan.get(key, 0) < rooms.get(key, 300) for key in keys):
                for key in keys:
                    plan[key] = plan.get(key, 0) + 1
    return plan


def chance_plans(many):
    return [(table, chance_plan(table, random.Random(seed))) for seed, table in enumerate(chance_tables(many))]


def sums(comers):
    """How many come home by each turn, of how many do at each."""
    return [sum(comers[:turn + 1]) for turn in range(len(comers))]


def renamed(table, seed):
    """The same table with other names, and with other orders of its rows."""
    chance = random.Random(seed)
    places = {name: f"z{number}" for number, (name, room) in enumerate(chance.sample(table.places, len(table.places)))}
    rows = [
        [(places[name], room) for name, room in table.places],
        [(f"x{at}", places[row[1]], row[2], places[row[3]], row[4], row[5]) for at, row in enumerate(table.rides)],
        [(f"y{at}", places[row[1]], places[row[2]], row[3], row[4]) for at, row in enumerate(table.ways)],
        [(f"v.{at}", places[row[1]], row[2], row[3]) for at, row in enumerate(table.groups)],
    ]
    for part in rows:
        chance.shuffle(part)
    return Table(table.turns, *rows)


def together_by_hand(table, turn):
    """Every tuple of how many of each group, in the table's order, can be home by the turn together."""
    rooms = {key: room for key, tail, head, room, price in moves_by_hand(table)}
    found = {((), ())}
    for name, place, first, many in table.groups:
        paths = [steps for start in range(first, turn + 1) for steps, come in paths_home(table, (place, start))
                 if come <= turn]
        last = {(taken, outs + (0,)) for taken, outs in found}
        found = set(last)
        for person in range(many):
            last = {further for state in last for further in one_further(state, paths, rooms)}
            found |= last
    return {outs for taken, outs in found}


def one_further(state, paths, rooms):
    taken, outs = state
    for steps in paths:
        used = dict(taken)
        for key, price in steps:
            used[key] = used.get(key, 0) + 1
        if all(used[key] <= rooms[key] for key, price in steps):
            yield (tuple(sorted(used.items())), outs[:-1] + (outs[-1] + 1,))


def persons_by_hand(table):
    return [(row[0], number) for row in table.groups for number in range(row[3])]


def begin_by_hand(table, key):
    """The turn at which a step begins."""
    if key[0] == "ride":
        return [row[2] for row in table.rides if row[0] == key[1]][0]
    return key[2]


def rest_by_hand(table, journeys, now):
    """How many are home and the rows of those who stand somewhere, person by person along the journeys [101]."""
    homes = table.homes()
    heads = {key: head for key, tail, head, room, price in outs_by_hand(table) + moves_by_hand(table)}
    keys_of = {(group, number): keys for group, number, keys in journeys}
    home = 0
    standing = {}
    for name, place, first, many in table.groups:
        for number in range(many):
            walked = [key for key in keys_of.get((name, number), []) if begin_by_hand(table, key) < now]
            spot = heads[walked[-1]] if walked else (place, max(first, now))
            if walked and spot[0] in homes and spot[1] <= now:
                home += 1
            else:
                standing[spot] = standing.get(spot, 0) + 1
    order = [(name, turn) for turn in range(table.turns + 1) for name, room in table.places]
    return home, [(f"{spot[0]}.{spot[1]}",) + spot + (standing[spot],) for spot in order if spot in standing]
