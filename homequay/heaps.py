"""A heap of rows, which gives the least one first."""

from homequay.words import is_whole


class Heap:
    def __init__(self):
        self.kept = []

    def put(self, row):
        kept = self.kept
        kept.append(row)
        at = len(kept) - 1
        while at > 0 and row < kept[(at - 1) // 2]:
            kept[at] = kept[(at - 1) // 2]
            at = (at - 1) // 2
        kept[at] = row

    def take(self):
        if len(self.kept) == 0:
            return None
        last = self.kept.pop()
        if len(self.kept) == 0:
            return last
        least = self.kept[0]
        self.sink(last)
        return least

    # Puts a row in the place of the first one, and leads it down to where no row below it is less.
    def sink(self, row):
        kept = self.kept
        at = 0
        below = self.lesser_below(at)
        while below is not None and kept[below] < row:
            kept[at] = kept[below]
            at = below
            below = self.lesser_below(at)
        kept[at] = row

    def lesser_below(self, at):
        left = 2 * at + 1
        right = left + 1
        if left >= len(self.kept):
            return None
        if right < len(self.kept) and self.kept[right] < self.kept[left]:
            return right
        return left

    def many(self):
        return len(self.kept)

    def rows(self):
        return list(self.kept)


def is_row(thing):
    return isinstance(thing, tuple) and all([is_whole(number) for number in thing])


def is_heap(thing):
    if not isinstance(thing, list) or not all([is_row(row) for row in thing]):
        return False
    return all([thing[(at - 1) // 2] <= thing[at] for at in range(1, len(thing))])
