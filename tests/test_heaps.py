"""Heaps of rows [2], [3], [51], [52]."""

import itertools
import random
import unittest

from homequay.heaps import Heap, is_heap
from tests.things import any_things

ROWS = [(), (0,), (1,), (0, 5), (0, 5, -1), (-3,), (10 ** 29, 0), (-(10 ** 29),), (1, 1), (1, 0, 7)]


def filled(rows):
    heap = Heap()
    for row in rows:
        heap.put(row)
    return heap


def emptied(heap):
    taken = []
    while heap.many() > 0:
        taken.append(heap.take())
    return taken


class HeapTest(unittest.TestCase):
    def look_at(self, heap, rows):
        """The told list has the form of a heap, and just these rows."""
        told = heap.rows()
        self.assertIs(told.__class__, list)
        self.assertEqual(sorted(told), sorted(rows))
        self.assertEqual(heap.many(), len(rows))
        for at in range(1, len(told)):
            self.assertFalse(told[at] < told[(at - 1) // 2])
        self.assertIs(is_heap(told), True)

    def test_a_new_heap(self):
        heap = Heap()
        self.look_at(heap, [])
        self.assertIsNone(heap.take())
        self.look_at(heap, [])

    def test_what_is_given_back(self):
        heap = Heap()
        self.assertIsNone(heap.put((1, 2)))
        row = heap.take()
        self.assertEqual(row, (1, 2))
        self.assertIs(row.__class__, tuple)
        self.assertIsNone(heap.take())
        heap.put((3,))
        self.assertEqual(heap.take(), (3,))

    def test_every_order_of_some_rows(self):
        for rows in itertools.permutations([(), (0,), (0, 5), (-3,), (0,), (2, 2)]):
            heap = filled(rows)
            self.look_at(heap, rows)
            self.assertEqual(emptied(heap), sorted(rows))
            self.assertIsNone(heap.take())

    def test_rows_that_others_begin_with(self):
        self.assertEqual(emptied(filled([(1, 0), (1,), (), (1, 0, 0), (0, 9)])), [(), (0, 9), (1,), (1, 0), (1, 0, 0)])

    def test_the_same_row_several_times(self):
        heap = filled([(2,), (1,), (2,), (2,), (1,)])
        self.look_at(heap, [(1,), (1,), (2,), (2,), (2,)])
        self.assertEqual(emptied(heap), [(1,), (1,), (2,), (2,), (2,)])
        self.assertEqual(emptied(filled([(), (), ()])), [(), (), ()])

    def test_each_deed_by_chance(self):
        chance = random.Random(51)
        for number in range(40):
            heap = Heap()
            rows = []
            for deed in range(60):
                if chance.randint(0, 2) > 0:
                    row = chance.choice(ROWS + [tuple(chance.choices(range(-4, 5), k=chance.randint(0, 3)))])
                    heap.put(row)
                    rows.append(row)
                else:
                    least = min(rows, default=None)
                    self.assertEqual(heap.take(), least)
                    if rows:
                        rows.remove(least)
                self.look_at(heap, rows)
            self.assertEqual(emptied(heap), sorted(rows))

    def test_many_rows(self):
        rows = [(number * 7919 % 4001, number) for number in range(4000)]
        heap = filled(rows)
        self.look_at(heap, rows)
        self.assertEqual(emptied(heap), sorted(rows))

    def test_the_told_list_is_the_askers_own(self):
        heap = filled([(3,), (1,), (2,)])
        before = heap.rows()
        heap.rows().clear()
        heap.rows().append((0,))
        heap.rows()[0] = (9,)
        self.assertEqual(heap.rows(), before)
        self.assertEqual(heap.take(), (1,))
        self.assertEqual(before[0], (1,))

    def test_two_heaps(self):
        one = filled([(1,)])
        other = Heap()
        self.assertEqual(other.many(), 0)
        other.put((0,))
        self.assertEqual(one.rows(), [(1,)])


class IsHeapTest(unittest.TestCase):
    def test_with_the_form(self):
        for thing in ([], [()], [(), ()], [(), (0,)], [(5,)], [(1,), (1,), (1,)], [(0,), (2,), (1,)], [(0,), (1,), (2,)],
                      [(1,), (1, 0), (1, 0)], [(0,), (5,), (1,), (6,), (5,), (1,), (2,)], [(-(10 ** 29),), (10 ** 29,)]):
            self.assertIs(is_heap(thing), True, thing)

    def test_without_the_form_by_one_place(self):
        rows = [(0,), (10,), (20,), (30,), (40,), (50,), (60,), (70,)]
        self.assertIs(is_heap(rows), True)
        for at in range(1, len(rows)):
            above = rows[(at - 1) // 2]
            for row, expected in ((above, True), ((above[0], -1), True), ((above[0] - 1,), False), ((), False)):
                changed = rows[:at] + [row] + rows[at + 1:]
                below = [changed[k] for k in (2 * at + 1, 2 * at + 2) if k < len(rows)]
                self.assertTrue(all(row <= other for other in below))
                self.assertIs(is_heap(changed), expected, changed)
        self.assertIs(is_heap([(1, 0), (1,)]), False)
        self.assertIs(is_heap([(1,), (0,)]), False)
        self.assertIs(is_heap([(1,), (2,), (0,)]), False)

    def test_every_list_of_few_rows(self):
        for many in range(6):
            for rows in itertools.product([(), (0,), (1,)], repeat=many):
                thing = list(rows)
                expected = all(thing[(at - 1) // 2] <= thing[at] for at in range(1, many))
                self.assertIs(is_heap(thing), expected, thing)

    def test_other_kinds(self):
        wrong = [((1,),), ((1,), (2,)), {}, {(1,): 1}, "", [[]], [[1]], [(1,), [2]], [(True,)], [(False,)], [(0, True)],
                 [("1",)], [(None,)], [(1,), (2, "a")], [("a",), ("b",)], [1], [1, 2], ["a"], [None], [{}], [((),)],
                 [(1,), (([2]),)], [(1,), 2], [([],)], [({},)], [(1,), None], [True], (), None]
        for thing in wrong:
            self.assertIs(is_heap(thing), False, thing)

    def test_any_things(self):
        for thing in any_things():
            self.assertIs(is_heap(thing), thing == [], thing)
            self.assertIs(is_heap([thing]), thing == (), thing)
            self.assertIs(is_heap([(thing,)]), isinstance(thing, int) and not isinstance(thing, bool), thing)
            self.assertIs(is_heap([(0,), (0, thing)]), isinstance(thing, int) and not isinstance(thing, bool), thing)

    def test_what_is_handed_in_stays(self):
        thing = [(0,), (2,), (1,)]
        is_heap(thing)
        self.assertEqual(thing, [(0,), (2,), (1,)])


if __name__ == "__main__":
    unittest.main()
