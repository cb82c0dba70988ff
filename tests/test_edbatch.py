"""Point 143: curveseal.edbatch."""

import itertools
import random
import unittest

from curveseal.edbatch import eddsa_batch_accepts
from curveseal.eddsa import eddsa_accepts, eddsa_difference, eddsa_key, eddsa_sign
from curveseal.errors import OutOfRange
from curveseal.named import group_named
from lists import check_lists
from reference import EDWARDS_SIZES
from signing import edwards_form, edwards_plus, edwards_times, little, little_scalar, plain_seed_parts

NAMES = ("e13", "e61", "e241", "e1021", "ed25519")


def good_entries(group, count):
    size = EDWARDS_SIZES[group.name]
    entries = []
    for at in range(count):
        seed, message = [(at * 11 + 3) % 256] * size, [at] * (at % 3)
        entries.append((eddsa_key(group, seed), message, eddsa_sign(group, seed, message)))
    return entries


def with_other_scalar(group, entry, difference):
    key, message, signature = entry
    size = EDWARDS_SIZES[group.name]
    number = int.from_bytes(bytes(signature[size:]), "little")
    return (key, message, signature[:size] + little((number + difference) % group.order, size))


def only_cofactored(group, small):
    """Return an entry whose difference is the negative of a small point."""
    size = EDWARDS_SIZES[group.name]
    seed = [9] * size
    a, _ = plain_seed_parts(group, seed)
    key = eddsa_key(group, seed)
    first = edwards_form(group, edwards_plus(group, edwards_times(group, 2, group.base), small))
    k = little_scalar(group, first + key + [4])
    return (key, [4], first + little((2 + k * a) % group.order, size))


class BatchTest(unittest.TestCase):
    def test_empty_list(self):
        for name in NAMES:
            self.assertIs(eddsa_batch_accepts(group_named(name), [], []), True)

    def test_good_entries_with_any_factors(self):
        chosen = random.Random(3)
        for name in NAMES:
            group = group_named(name)
            entries = good_entries(group, 5)
            for count in (1, 2, 5):
                for _ in range(3):
                    factors = [chosen.randrange(1, group.order) for _ in range(count)]
                    self.assertIs(eddsa_batch_accepts(group, entries[:count], factors), True)
                for factor in (1, group.order - 1):
                    self.assertIs(eddsa_batch_accepts(group, entries[:count], [factor] * count), True)

    def test_entries_that_only_the_cofactored_way_accepts(self):
        for name in NAMES:
            group = group_named(name)
            small = (0, group.prime - 1)
            entry = only_cofactored(group, small)
            self.assertIs(eddsa_accepts(group, *entry, cofactored=False), False)
            for factors in ([1], [2], [group.order - 1]):
                self.assertIs(eddsa_batch_accepts(group, [entry], factors), True)
            entries = good_entries(group, 2) + [entry, entry]
            for factors in ([1, 1, 1, 1], [1, 2, 3, 4], [4, 3, 2, 1]):
                self.assertIs(eddsa_batch_accepts(group, entries, factors), True)

    def test_one_wrong_entry_with_any_factors(self):
        for name in ("e13", "e61", "e241"):
            group = group_named(name)
            entries = good_entries(group, 2) + [only_cofactored(group, (0, group.prime - 1))]
            for place, difference in itertools.product(range(3), (1, group.order - 1)):
                wrong = list(entries)
                wrong[place] = with_other_scalar(group, entries[place], difference)
                self.assertIs(eddsa_accepts(group, *wrong[place]), False)
                for factor in range(1, group.order):
                    for factors in ([factor] * 3, [1, factor, 2], [factor, 3, group.order - factor]):
                        self.assertIs(eddsa_batch_accepts(group, wrong, factors), False)

    def test_one_wrong_entry_of_a_big_list(self):
        group = group_named("ed25519")
        entries = good_entries(group, 4)
        key, message, signature = entries[1]
        for wrong in (with_other_scalar(group, entries[1], 1), (key, message + [1], signature)):
            for factors in ([1, 1, 1, 1], [2 ** 128, 3 ** 99, 5, group.order - 1]):
                self.assertIs(eddsa_batch_accepts(group, [entries[0], wrong] + entries[2:], factors), False)

    def test_two_wrong_entries_whose_differences_cancel(self):
        for name in NAMES:
            group = group_named(name)
            entries = good_entries(group, 3)
            for first, second in ((1, 1), (2, 3), (group.order - 1, 2)):
                wrong = [
                    with_other_scalar(group, entries[0], second), entries[1],
                    with_other_scalar(group, entries[2], -first),
                ]
                self.assertIs(eddsa_batch_accepts(group, wrong, [first, 1, second]), True)
                self.assertIs(eddsa_batch_accepts(group, wrong, [first, 1, second % (group.order - 1) + 1]), False)

    def test_formula(self):
        chosen = random.Random(4)
        group = group_named("e13")
        accepted = 0
        for _ in range(200):
            entries = [with_other_scalar(group, entry, chosen.randrange(3)) for entry in good_entries(group, 2)]
            factors = [chosen.randrange(1, 5) for _ in entries]
            total = (0, 1)
            for entry, factor in zip(entries, factors):
                total = edwards_plus(group, total, edwards_times(group, factor, eddsa_difference(group, *entry)))
            expected = edwards_times(group, 4, total) == (0, 1)
            self.assertIs(eddsa_batch_accepts(group, entries, factors), expected)
            accepted += expected
        self.assertTrue(0 < accepted < 200)

    def test_entries_that_cannot_be_read(self):
        for name in ("e13", "e241", "ed25519"):
            group = group_named(name)
            size = EDWARDS_SIZES[name]
            entries = good_entries(group, 3)
            key, message, signature = entries[1]
            wrong = [
                ([], message, signature), (key + [0], message, signature), ([255] * size, message, signature),
                (key, message, []), (key, message, signature[:-1]), (key, message, signature + [0]),
                (key, message, [255] * size + signature[size:]),
                (key, message, signature[:size] + little(group.order, size)),
            ]
            for other in wrong:
                for place in range(3):
                    listed = list(entries)
                    listed[place] = other
                    self.assertIs(eddsa_batch_accepts(group, listed, [1, 2, 3]), False)
                self.assertIs(eddsa_batch_accepts(group, [other], [1]), False)

    def test_weak_keys(self):
        # Under a weak key the cofactored way accepts every message.
        group = group_named("ed25519")
        key = edwards_form(group, (0, group.prime - 1))
        signature = edwards_form(group, edwards_times(group, 7, group.base)) + little(7, 32)
        entries = [(key, [at], signature) for at in range(3)]
        self.assertIs(eddsa_batch_accepts(group, entries, [1, 2, 3]), True)

    def test_factors_that_do_not_fit(self):
        for name in ("e61", "ed25519"):
            group = group_named(name)
            entries = good_entries(group, 2)
            for count in (0, 1, 3):
                with self.assertRaises(OutOfRange):
                    eddsa_batch_accepts(group, entries, [1] * count)
            with self.assertRaises(OutOfRange):
                eddsa_batch_accepts(group, [], [1])
            for factor in (0, -1, group.order, group.order + 1, -group.order, 2 ** 600):
                for factors in ([factor, 1], [1, factor]):
                    with self.assertRaises(OutOfRange):
                        eddsa_batch_accepts(group, entries, factors)
                    with self.assertRaises(OutOfRange):
                        eddsa_batch_accepts(group, [([], [], [])] * 2, factors)

    def test_lists(self):
        group = group_named("e61")
        check_lists(self, eddsa_batch_accepts, group, good_entries(group, 3), [1, 2, 3])


if __name__ == "__main__":
    unittest.main()
