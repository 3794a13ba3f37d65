import unittest
from copy import deepcopy
from random import Random

from gatepairs.matching import pair_musts, rivals
from tests.reference import subsets


def partly_paired(random, fit_lists, size):
    """Lists (partners, holders) that pair some of the lines."""
    partners, holders = [None] * len(fit_lists), [None] * size
    for number, others in enumerate(fit_lists):
        free = [other for other in others if holders[other] is None]
        if free and random.randrange(2):
            other = random.choice(free)
            partners[number], holders[other] = other, number
    return partners, holders


class MatchingTest(unittest.TestCase):
    def lacking(self, fit_lists, numbers):
        """By how many these lines are more than the lines that fit them."""
        return len(numbers) - len({other for number in numbers for other in fit_lists[number]})

    def check(self, fit_lists, musts, partners, holders):
        before = deepcopy((fit_lists, musts, partners, holders))
        new_partners, new_holders, left_over = pair_musts(fit_lists, musts, partners, holders)
        self.assertEqual((fit_lists, musts, partners, holders), before)
        self.assertEqual([len(new_partners), len(new_holders)], [len(partners), len(holders)])
        for number, other in enumerate(new_partners):
            self.assertTrue(other is None or other in fit_lists[number] and new_holders[other] == number)
            self.assertTrue(other is not None or number not in musts or partners[number] is None)
        for other, number in enumerate(new_holders):
            self.assertTrue(number is None or new_partners[number] == other)
            self.assertTrue(number is not None or holders[other] is None)
        self.assertEqual(left_over, [number for number in musts if new_partners[number] is None])
        for starts in subsets(left_over):
            found = rivals(fit_lists, musts, new_holders, starts)
            self.assertEqual(found, sorted(set(found) & set(musts)))
            self.assertEqual(self.lacking(fit_lists, found), len(starts))
            self.assertLessEqual(set(starts), set(found))
        self.assertEqual((fit_lists, musts), before[:2])
        new_partners.append(None)
        new_holders.append(None)
        self.assertEqual((partners, holders), before[2:])
        return left_over

    def test_small_cases(self):
        random = Random(6)
        results = []
        for _ in range(3000):
            size = random.randrange(5)
            many = random.randrange(6)
            fit_lists = [[other for other in range(size) if random.randrange(3) == 0] for _ in range(many)]
            musts = [number for number in range(len(fit_lists)) if random.randrange(3)]
            left_over = self.check(fit_lists, musts, *partly_paired(random, fit_lists, size))
            self.assertEqual(len(left_over), max(self.lacking(fit_lists, numbers) for numbers in subsets(musts)))
            results.append(len(left_over))
        for many in range(4):
            self.assertGreater(results.count(many), 50)

    def test_line_that_is_no_must_line_gives_its_partner_away(self):
        self.assertEqual(pair_musts([[0], [0]], [1], [0, None], [0]), ([None, 0], [1], []))
        self.assertEqual(pair_musts([[0], [0]], [0, 1], [0, None], [0]), ([0, None], [0], [1]))
        self.assertEqual(rivals([[0], [0]], [0, 1], [0], [1]), [0, 1])

    def test_nothing_to_do(self):
        self.assertEqual(pair_musts([], [], [], []), ([], [], []))
        self.assertEqual(pair_musts([[0], []], [], [None, None], [None]), ([None, None], [None], []))
        self.assertEqual(rivals([[0], []], [0, 1], [0], []), [])


if __name__ == "__main__":
    unittest.main()
