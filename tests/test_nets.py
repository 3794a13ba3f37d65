import unittest

from gatepairs.nets import net_of, with_pair_apart, without_line, without_lines
from tests import reference
from tests.case import Case
from tests.samples import CAR, GATES, LOG, busy_logs, large_logs, same, small_logs


class NetsTest(Case):
    def check_net(self, net, kinds, log, apart=(), gone=((), ())):
        fitting = [pair for pair in reference.all_pairs(log) if reference.regarded_fit(kinds, log, pair, apart, gone)]
        for place, gate in enumerate(GATES):
            numbers = range(len(log[place]))
            lists = [[pair[1 - place] for pair in fitting if pair[place] == number] for number in numbers]
            self.assertTrue(same(net.fit_lists[gate], lists))
            self.assertTrue(same(net.musts[gate], reference.regarded_musts(kinds, log, gate, gone)))
        self.assertEqual([list(net.fit_lists), list(net.musts)], [list(GATES)] * 2)

    def test_small_logs(self):
        for kinds, log in [*small_logs(200), *busy_logs(60)]:
            net = net_of(kinds, log)
            self.check_net(net, kinds, log)
            for pair in reference.all_pairs(log):
                self.check_net(with_pair_apart(net, pair), kinds, log, apart=pair)
            for place, gate in enumerate(GATES):
                for number in range(len(log[place])):
                    gone = ([number], []) if place == 0 else ([], [number])
                    self.check_net(without_line(net, gate, number), kinds, log, gone=gone)
            for gone in zip(reference.subsets(range(len(log[0]))), reference.subsets(range(len(log[1])))[::-1]):
                self.check_net(without_lines(net, *gone), kinds, log, gone=gone)
            # None of these has changed the net.
            self.check_net(net, kinds, log)

    def test_large_logs(self):
        for kinds, log in large_logs(3):
            self.check_net(net_of(kinds, log), kinds, log)

    def test_example(self):
        net = net_of(CAR, LOG)
        self.assertEqual(net.fit_lists, {"entries": [[0], [0, 1]], "exits": [[0, 1], [1]]})
        self.assertEqual(net.musts, {"entries": [0], "exits": []})


if __name__ == "__main__":
    unittest.main()
