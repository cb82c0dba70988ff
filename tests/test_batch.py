"""Points 126 and 127: curveseal.batch."""

import itertools
import random
import unittest

from curveseal.batch import batch_accepts, batch_factors
from curveseal.errors import OutOfRange
from curveseal.named import group_named
from curveseal.schnorr import challenge, schnorr_accepts, schnorr_key, schnorr_sign
from lists import check_lists
from signing import big, even_point, multiple, plus, tagged_digest

SMALL = ("w11", "w23", "w251", "w1021")
BIG = ("secp256k1", "p256")


def good_entries(group, count):
    """Return entries that are accepted alone; some have equal keys, messages and signatures."""
    secrets = [1 + (5 * at) % (group.order - 1) for at in range(count)]
    messages = [[at // 2] * (at % 4) for at in range(count)]
    return [
        (schnorr_key(group, secret), message, schnorr_sign(group, secret, message))
        for secret, message in zip(secrets, messages)
    ]


def with_other_scalar(group, entry, difference):
    """Return an entry with a greater number s in its signature."""
    key, message, signature = entry
    number = int.from_bytes(bytes(signature[group.size:]), "big")
    return (key, message, signature[:group.size] + big((number + difference) % group.order, group.order_size))


def expected_answer(group, entries, factors):
    """Return the answer of point 126, with the sums of the reference."""
    left, right = 0, None
    for (key, message, signature), a in zip(entries, factors):
        form, last = signature[:group.size], int.from_bytes(bytes(signature[group.size:]), "big")
        point, public = even_point(group, form), even_point(group, key)
        if point is None or public is None or last >= group.order:
            return False
        if len(signature) != group.size + group.order_size:
            return False
        e = challenge(group, form, key, message)
        left += a * last
        right = plus(group, right, plus(group, multiple(group, a, point), multiple(group, a * e, public)))
    return multiple(group, left, group.base) == right


def expected_factors(group, entries):
    data = []
    for key, message, signature in entries:
        data += key + big(len(message), 4) + message + signature
    root = tagged_digest("curveseal/batch", data)
    found = []
    for at in range(len(entries)):
        number = int.from_bytes(bytes(tagged_digest("curveseal/factor", root + big(at, 4))), "big")
        found.append(number % (group.order - 1) + 1 if at > 0 else 1)
    return found


class BatchAcceptsTest(unittest.TestCase):
    def test_empty_list(self):
        for name in SMALL + BIG:
            self.assertIs(batch_accepts(group_named(name), [], []), True)

    def test_good_entries_with_any_factors(self):
        chosen = random.Random(1)
        for name in SMALL:
            group = group_named(name)
            entries = good_entries(group, 9)
            for count in (1, 2, 3, 9):
                for _ in range(6):
                    factors = [chosen.randrange(1, group.order) for _ in range(count)]
                    self.assertIs(batch_accepts(group, entries[:count], factors), True)
                for factor in (1, group.order - 1):
                    self.assertIs(batch_accepts(group, entries[:count], [factor] * count), True)
            for entry in entries:
                self.assertIs(batch_accepts(group, [entry, entry], [1, group.order - 1]), True)

    def test_one_wrong_entry_with_any_factors(self):
        for name in ("w11", "w23"):
            group = group_named(name)
            entries = good_entries(group, 3)
            for place, difference in itertools.product(range(3), (1, 5, group.order - 1)):
                wrong = list(entries)
                wrong[place] = with_other_scalar(group, entries[place], difference)
                self.assertIs(schnorr_accepts(group, *wrong[place]), False)
                for factor in range(1, group.order):
                    for factors in ([factor] * 3, [1, factor, 2], [factor, 3, group.order - factor]):
                        self.assertIs(batch_accepts(group, wrong, factors), False)

    def test_every_signature_alone(self):
        group = group_named("w11")
        key, message = schnorr_key(group, 3), [1, 2]
        for first, last in itertools.product(range(14), range(20)):
            entry = (key, message, [first, last])
            alone = schnorr_accepts(group, *entry)
            for factor in (1, 2, 16):
                self.assertIs(batch_accepts(group, [entry], [factor]), alone)

    def test_two_wrong_entries_whose_differences_cancel(self):
        for name in SMALL + BIG:
            group = group_named(name)
            entries = good_entries(group, 3)
            for first, second in ((1, 1), (2, 3), (group.order - 1, 5)):
                # The sum of all a * s stays the same.
                wrong = [
                    with_other_scalar(group, entries[0], second), entries[1],
                    with_other_scalar(group, entries[2], -first),
                ]
                self.assertIs(batch_accepts(group, wrong, [first, 7, second]), True)
                self.assertIs(batch_accepts(group, wrong, [first % group.order, 7, second + 1]), False)

    def test_formula(self):
        chosen = random.Random(2)
        for name in ("w11", "w23"):
            group = group_named(name)
            accepted = 0
            for _ in range(300):
                entries = [
                    with_other_scalar(group, entry, chosen.randrange(3)) for entry in good_entries(group, 2)
                ]
                factors = [chosen.randrange(1, group.order) for _ in entries]
                expected = expected_answer(group, entries, factors)
                self.assertIs(batch_accepts(group, entries, factors), expected)
                accepted += expected
            self.assertTrue(0 < accepted < 300)

    def test_entries_that_cannot_be_read(self):
        for name in ("w11", "w1021", "secp256k1"):
            group = group_named(name)
            entries = good_entries(group, 3)
            key, message, signature = entries[1]
            no_point = next(x for x in range(1, 99) if group.lift(x, False) is None)
            form = big(no_point, group.size)
            first, last = signature[:group.size], signature[group.size:]
            wrong = [
                ([], message, signature), (key + [0], message, signature), (form, message, signature),
                (key, message, []), (key, message, signature[:-1]), (key, message, signature + [0]),
                (key, message, form + last), (key, message, first + big(group.order, group.order_size)),
                (big(group.prime, group.size), message, signature),
            ]
            for other in wrong:
                for place in range(3):
                    listed = list(entries)
                    listed[place] = other
                    self.assertIs(batch_accepts(group, listed, [1, 2, 3]), False)
                self.assertIs(batch_accepts(group, [other], [1]), False)
                self.assertIs(batch_accepts(group, [other, other], [1, group.order - 1]), False)

    def test_big_groups(self):
        for name in BIG:
            group = group_named(name)
            entries = good_entries(group, 4)
            factors = [1, 2 ** 128, group.order - 1, 3 ** 150]
            self.assertIs(batch_accepts(group, entries, factors), True)
            self.assertIs(batch_accepts(group, entries, batch_factors(group, entries)), True)
            key, message, signature = entries[2]
            for wrong in ((key, message + [1], signature), (entries[1][0], message, signature)):
                listed = entries[:2] + [wrong] + entries[3:]
                self.assertIs(batch_accepts(group, listed, factors), False)
                self.assertIs(batch_accepts(group, listed, batch_factors(group, listed)), False)

    def test_factors_that_do_not_fit(self):
        for name in ("w11", "secp256k1"):
            group = group_named(name)
            entries = good_entries(group, 2)
            for count in (0, 1, 3, 4):
                with self.assertRaises(OutOfRange):
                    batch_accepts(group, entries, [1] * count)
            with self.assertRaises(OutOfRange):
                batch_accepts(group, [], [1])
            for factor in (0, -1, group.order, group.order + 1, -group.order, 2 ** 600):
                for factors in ([factor, 1], [1, factor]):
                    with self.assertRaises(OutOfRange):
                        batch_accepts(group, entries, factors)
                    # The factors are looked at before the entries.
                    with self.assertRaises(OutOfRange):
                        batch_accepts(group, [([], [], [])] * 2, factors)

    def test_lists(self):
        group = group_named("w11")
        check_lists(self, batch_accepts, group, good_entries(group, 3), [1, 2, 3])


class BatchFactorsTest(unittest.TestCase):
    def test_digests(self):
        for name in SMALL + BIG:
            group = group_named(name)
            for count in (0, 1, 2, 3, 8):
                entries = good_entries(group, count)
                found = batch_factors(group, entries)
                self.assertEqual(found, expected_factors(group, entries))
                self.assertEqual(found[:1], [1] * min(count, 1))
                self.assertIs(batch_accepts(group, entries, found), True)

    def test_all_factors_lie_in_their_bounds(self):
        group = group_named("w11")
        entries = [([at], [], []) for at in range(200)]
        found = batch_factors(group, entries)
        self.assertEqual(found, expected_factors(group, entries))
        self.assertEqual(set(found), set(range(1, 17)))

    def test_everything_counts(self):
        group = group_named("secp256k1")
        entries = [([1], [2], [3]), ([4], [5], [6])]
        others = [
            [([9], [2], [3]), ([4], [5], [6])], [([1], [9], [3]), ([4], [5], [6])], [([1], [2], [9]), ([4], [5], [6])],
            [([1], [2], [3]), ([9], [5], [6])], [([1], [2], [3]), ([4], [5], [9])], [([4], [5], [6]), ([1], [2], [3])],
            [([1], [2, 3], []), ([4], [5], [6])],
        ]
        found = [batch_factors(group, listed)[1] for listed in [entries] + others]
        self.assertEqual(len(set(found)), len(found))

    def test_long_messages(self):
        group = group_named("w251")
        entries = [([1], [7] * 65536, [2]), ([3], [8] * 70000, [4])]
        self.assertEqual(batch_factors(group, entries), expected_factors(group, entries))

    def test_lists(self):
        group = group_named("w11")
        check_lists(self, batch_factors, group, good_entries(group, 3))


if __name__ == "__main__":
    unittest.main()
