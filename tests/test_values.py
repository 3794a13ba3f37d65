import unittest

from gatepairs.values import is_ascending, is_integer, is_number_list, is_pair_list, is_tuple, is_word


class ValuesTest(unittest.TestCase):
    def test_is_integer(self):
        self.assertEqual([value for value in range(-5, 9) if is_integer(value, -2, 3)], [-2, -1, 0, 1, 2, 3])
        self.assertFalse(any(is_integer(value, -2, 3) for value in (True, False, None, "1", (1,), [1], {1: 1})))

    def test_is_tuple(self):
        self.assertEqual([many for many in range(5) if is_tuple((0,) * many, 2)], [2])
        self.assertFalse(any(is_tuple(value, 2) for value in ([0, 0], "ab", {0: 0, 1: 1}, None, 2)))

    def test_is_word(self):
        self.assertEqual([many for many in range(12) if is_word("a" * many, "ab")], list(range(1, 9)))
        self.assertFalse(any(is_word(value, "ab") for value in ("c", "abc", "A", ["a"], ("a",), {"a": "a"}, None, 1)))

    def test_is_ascending(self):
        self.assertTrue(all(is_ascending(items) for items in ([], [5], [1, 2, 9], [(0, 1), (0, 2), (1, 0)])))
        self.assertFalse(any(is_ascending(items) for items in ([1, 1], [2, 1], [1, 2, 2], [1, 3, 2], [(0, 1), (0, 1)])))

    def test_is_number_list(self):
        self.assertTrue(all(is_number_list(value, 3) for value in ([], [0], [2], [0, 2], [0, 1, 2])))
        wrong = ([-1], [3], [1, 0], [0, 0], [True], [None], (0,), None, "0", {0: 0})
        self.assertFalse(any(is_number_list(value, 3) for value in wrong))
        self.assertFalse(is_number_list([0], 0))

    def test_is_pair_list(self):
        right = ([], [(0, 0)], [(1, 2)], [(0, 0), (0, 1)], [(0, 2), (1, 0)])
        self.assertTrue(all(is_pair_list(value, 2, 3) for value in right))
        wrong = ([(2, 0)], [(0, 3)], [(-1, 0)], [(0, -1)])
        wrong += ([(1, 0), (0, 0)], [(0, 0), (0, 0)], [[0, 0]], [(0,)], ((0, 0),))
        self.assertFalse(any(is_pair_list(value, 2, 3) for value in wrong))
        self.assertFalse(is_pair_list([(0, 0)], 1, 0))


if __name__ == "__main__":
    unittest.main()
