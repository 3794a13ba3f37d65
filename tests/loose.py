"""Points 25 to 30 of the document once more, slow and word by word: by trying everything. Only for small logs."""

from functools import cached_property
from random import Random

from tests.reference import all_pairs, is_one_of, lines_fit, regarded_fit, regarded_musts, subsets
from tests.samples import GATES, random_line, same

THRESHOLDS = range(1, 10)
PLACES = [(gate, threshold) for gate in GATES for threshold in THRESHOLDS]
PROFILES = [[5], [1, 9], [3, 4, 5], [4, 4, 4, 5], list(THRESHOLDS)]


def random_trusts(random, log):
    profile = random.choice(PROFILES)
    return tuple([random.choice(profile) for _ in lines] for lines in log[:2])


def with_trusts(logs, seed=0):
    """The logs, given as tuples (kinds, log), as tuples (kinds, log, trusts)."""
    random = Random(seed)
    for kinds, log in logs:
        yield kinds, log, random_trusts(random, log)


def crowded_logs(count):
    """Random logs with up to five lines at a gate, of which many fit each other, and many have to be ignored."""
    random = Random(60)
    for _ in range(count):
        kinds = random.choice([{"car": (0, 2)}, {"car": (1, 1), "van": (0, 3)}, {"car": (2, 3)}])
        many = random.choice([(4, 2), (2, 4), (3, 3), (5, 2), (2, 5), (4, 3), (3, 4)])
        shift = random.randrange(3)
        entries = [random_line(random, kinds, 4) for _ in range(many[0])]
        exits = [random_line(random, kinds, 4) for _ in range(many[1])]
        exits = [(time + shift, kind, plate) for time, kind, plate in exits]
        yield kinds, (entries, exits, random.choice([0, 3, "closed"]), random.choice([0, 5, "closed", "closed"]))


def has_line(world, gate, number):
    return number in [pair[GATES.index(gate)] for pair in world]


class Loose:
    """A log with trusts and all its loose worlds.

    It can be regarded as one in which the pair apart does not fit, or without the entries and the exits that are gone.
    """

    def __init__(self, kinds, log, trusts, apart=(), gone=((), ())):
        self.whole = kinds, log, trusts
        self.trusts = dict(zip(GATES, trusts))
        self.fitting = [pair for pair in all_pairs(log) if regarded_fit(kinds, log, pair, apart, gone)]
        self.musts = {gate: regarded_musts(kinds, log, gate, gone) for gate in GATES}

    def regarded(self, apart=(), gone=((), ())):
        return Loose(*self.whole, apart, gone)

    def without_line(self, gate, number):
        return self.regarded(gone=([number], []) if gate == "entries" else ([], [number]))

    @cached_property
    def worlds(self):
        """The list of all loose worlds."""
        found = [[]]
        for pair in self.fitting:
            found += [[*world, pair] for world in found if not any(pair[0] == e or pair[1] == x for e, x in world)]
        return sorted(found)

    def counting(self, gate, threshold):
        return [number for number in self.musts[gate] if self.trusts[gate][number] >= threshold]

    def ignored(self, gate, world):
        return [number for number in self.musts[gate] if not has_line(world, gate, number)]

    def ignored_counts(self, world):
        """How many lines that count there the loose world ignores, at each gate and threshold."""
        ignored = {gate: self.ignored(gate, world) for gate in GATES}
        return {place: len([n for n in ignored[place[0]] if n in self.counting(*place)]) for place in PLACES}

    @cached_property
    def lacks(self):
        counts = [self.ignored_counts(world) for world in self.worlds]
        return {place: min(count[place] for count in counts) for place in PLACES}

    def lack(self, gate, threshold):
        return self.lacks[gate, threshold] if threshold < 10 else 0

    @property
    def lack_lists(self):
        return tuple([self.lacks[gate, threshold] for threshold in THRESHOLDS] for gate in GATES)

    @cached_property
    def best(self):
        """The list of all best worlds."""
        return [world for world in self.worlds if self.ignored_counts(world) == self.lacks]

    @property
    def best_repairs(self):
        found = [tuple(self.ignored(gate, world) for gate in GATES) for world in self.best]
        return sorted({str(repair): repair for repair in found}.values())

    def size(self, gate, numbers):
        place = GATES.index(gate)
        return len(numbers) - len({pair[1 - place] for pair in self.fitting if pair[place] in numbers})

    def is_shortage(self, gate, threshold, value):
        return is_one_of(value, subsets(self.counting(gate, threshold)))

    def is_graded_repair(self, value):
        """Point 28."""
        if not isinstance(value, tuple) or len(value) != 5 or not is_one_of(value[2], self.best):
            return False
        for place, gate in enumerate(GATES):
            shortages = value[3 + place]
            if not same(value[place], self.ignored(gate, value[2])):
                return False
            if not isinstance(shortages, list) or len(shortages) != 9:
                return False
            for threshold in THRESHOLDS:
                shortage = shortages[threshold - 1]
                if not self.is_shortage(gate, threshold, shortage):
                    return False
                count = len([number for number in value[place] if number in self.counting(gate, threshold)])
                if self.size(gate, shortage) != count:
                    return False
        return True

    def is_greater(self, value, whole):
        """A tuple of a gate, a threshold and a shortage of this log of a size that the whole log does not lack."""
        if not isinstance(value, tuple) or len(value) != 3 or not is_one_of(value[0], GATES):
            return False
        gate, threshold, numbers = value
        if not is_one_of(threshold, THRESHOLDS) or not self.is_shortage(gate, threshold, numbers):
            return False
        return self.size(gate, numbers) > whole.lack(gate, threshold)

    def line_word(self, gate, number):
        """The word of the grade of the line, from all best worlds."""
        found = [has_line(world, gate, number) for world in self.best]
        if all(found):
            return "paired"
        if number not in self.musts[gate]:
            return "open"
        return "either" if any(found) else "ignored"

    def is_line_grade(self, gate, number, value):
        """Point 29."""
        if not isinstance(value, tuple) or len(value) not in (2, 3) or not is_one_of(value[1], self.best):
            return False
        word = self.line_word(gate, number)
        if not same(value[0], word) or len(value) != (2 if word == "open" else 3):
            return False
        if word == "open":
            return not has_line(value[1], gate, number)
        if word == "either":
            worlds = value[1:]
            return is_one_of(worlds[1], self.best) and [has_line(w, gate, number) for w in worlds] == [True, False]
        return self.is_line_evidence(gate, number, word, value[2])

    def is_line_evidence(self, gate, number, word, evidence):
        trust = self.trusts[gate][number]
        if word == "ignored":
            greater = self.counting(gate, trust + 1)
            chosen = [numbers for numbers in subsets(sorted([*greater, number])) if number in numbers]
            return is_one_of(evidence, chosen) and self.size(gate, evidence) > self.lack(gate, trust + 1)
        if number not in self.musts[gate]:
            return self.without_line(gate, number).is_greater(evidence, self)
        if not self.is_shortage(gate, trust, evidence) or number in evidence:
            return False
        return self.size(gate, evidence) == self.lack(gate, trust)

    def pair_word(self, pair):
        """The word of the grade of the pair, from all best worlds."""
        found = [pair in world for world in self.best]
        if all(found):
            return "certain"
        return "undecided" if any(found) else "impossible"

    def is_pair_grade(self, pair, value):
        """Point 30."""
        if not isinstance(value, tuple) or len(value) != 3 or not is_one_of(value[1], self.best):
            return False
        word, world, evidence = value
        if not same(word, self.pair_word(pair)):
            return False
        if word == "undecided":
            return pair in world and is_one_of(evidence, self.best) and pair not in evidence
        if word == "certain":
            return self.regarded(apart=pair).is_greater(evidence, self)
        kinds, log, _ = self.whole
        if not lines_fit(kinds, log[0][pair[0]], log[1][pair[1]]):
            return evidence is None
        return self.regarded(gone=([pair[0]], [pair[1]])).is_greater(evidence, self)
