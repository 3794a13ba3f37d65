import unittest
from random import Random

from gatepairs.arrows import component_numbers, turned


def reached(followers):
    """For each node all nodes to which a walk leads, itself included."""
    found = [{node} for node in range(len(followers))]
    for _ in followers:
        for node, others in enumerate(followers):
            found[node] = found[node].union(*(found[other] for other in others))
    return found


class ArrowsTest(unittest.TestCase):
    def test_turned(self):
        self.assertEqual(turned([[1, 2], [], [0, 2]], 4), [[2], [0], [0, 2], []])
        self.assertEqual(turned([], 2), [[], []])
        self.assertEqual(turned([[], []], 0), [])

    def check(self, followers):
        numbers = component_numbers(followers)
        walks = reached(followers)
        self.assertEqual(sorted(set(numbers)), list(range(len(set(numbers)))))
        for node in range(len(followers)):
            for other in range(len(followers)):
                together = other in walks[node] and node in walks[other]
                self.assertEqual(numbers[node] == numbers[other], together)
                if other in walks[node]:
                    self.assertGreaterEqual(numbers[node], numbers[other])

    def test_small_graphs(self):
        random = Random(8)
        for _ in range(1500):
            many, share = random.randrange(8), random.randrange(1, 7)
            self.check([[other for other in range(many) if random.randrange(8) < share] for _ in range(many)])

    def test_long_ways(self):
        many = 3000
        self.assertEqual(component_numbers([[node + 1] for node in range(many - 1)] + [[]]), list(range(many))[::-1])
        self.assertEqual(component_numbers([[]] + [[node] for node in range(many - 1)]), list(range(many)))
        self.assertEqual(component_numbers([[(node + 1) % many] for node in range(many)]), [0] * many)
        self.assertEqual(component_numbers([]), [])


if __name__ == "__main__":
    unittest.main()
