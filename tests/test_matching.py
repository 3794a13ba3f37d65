import unittest
from copy import deepcopy
from random import Random

from gatepairs.matching import pair_musts
from tests.reference import subsets


def partly_paired(random, fit_lists, size):
    """Lists (partners, holders) that pair some of the lines."""
    partners, holders = [None] * len(fit_lists), [None] * size
    for number, others in enumerate(fit_lists):
        free = [other for other in others if holders[other] is None]
        if free and random.randrange(2):
            other = random.choice(free)
            partners[number], holders[other] = other, number
    return partners, holders


class PairMustsTest(unittest.TestCase):
    def check(self, fit_lists, musts, partners, holders):
        before = deepcopy((fit_lists, musts, partners, holders))
        new_partners, new_holders, numbers = pair_musts(fit_lists, musts, partners, holders)
        self.assertEqual((fit_lists, musts, partners, holders), before)
        self.assertEqual([len(new_partners), len(new_holders)], [len(partners), len(holders)])
        for number, other in enumerate(new_partners):
            self.assertTrue(other is None or other in fit_lists[number] and new_holders[other] == number)
        for other, number in enumerate(new_holders):
            self.assertTrue(number is None or new_partners[number] == other)
            self.assertTrue(number is not None or holders[other] is None)
        if numbers is None:
            self.assertTrue(all(new_partners[number] is not None for number in musts))
        else:
            self.assertTrue(self.too_many(fit_lists, numbers))
            self.assertEqual(numbers, sorted(set(numbers) & set(musts)))
        return numbers

    def too_many(self, fit_lists, numbers):
        return len({other for number in numbers for other in fit_lists[number]}) < len(numbers)

    def test_small_cases(self):
        random = Random(6)
        results = []
        for _ in range(3000):
            size = random.randrange(5)
            fit_lists = [[other for other in range(size) if random.randrange(2)] for _ in range(random.randrange(6))]
            musts = [number for number in range(len(fit_lists)) if random.randrange(3)]
            found = self.check(fit_lists, musts, *partly_paired(random, fit_lists, size))
            self.assertEqual(found is None, not any(self.too_many(fit_lists, numbers) for numbers in subsets(musts)))
            results.append(found is None)
        self.assertGreater(results.count(True), 500)
        self.assertGreater(results.count(False), 500)

    def test_line_that_is_no_must_line_gives_its_partner_away(self):
        self.assertEqual(pair_musts([[0], [0]], [1], [0, None], [0]), ([None, 0], [1], None))
        self.assertEqual(pair_musts([[0], [0]], [0, 1], [0, None], [0]), ([0, None], [0], [0, 1]))

    def test_nothing_to_do(self):
        self.assertEqual(pair_musts([], [], [], []), ([], [], None))
        self.assertEqual(pair_musts([[0], []], [], [None, None], [None]), ([None, None], [None], None))


if __name__ == "__main__":
    unittest.main()
