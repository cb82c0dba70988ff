"""Points 128 to 132: curveseal.team."""

import itertools
import unittest

from curveseal.errors import Malformed, OutOfRange, Refused
from curveseal.named import group_named
from curveseal.schnorr import challenge, schnorr_accepts, schnorr_key
from curveseal.team import Member, join_partials, right_partial, team_key, team_point, team_shares
from lists import check_lists
from signing import big, even_point, group_of_521_bits, multiple, plus, scalar, schnorr_parts, tagged_digest, x_form

SMALL = ("w11", "w23", "w43", "w251", "w1021")
BIG = ("secp256k1", "p256")


def joined(lists):
    return [byte for each in lists for byte in each]


def point_form(group, point):
    return [2 + point[1] % 2] + big(point[0], group.size)


def shares_of(group, keys):
    root = tagged_digest("curveseal/team", joined(keys))
    return [scalar(group, "curveseal/share", root + key) or 1 for key in keys]


def point_of(group, keys):
    total = None
    for share, key in zip(shares_of(group, keys), keys):
        total = plus(group, total, multiple(group, share, even_point(group, key)))
    return total


def nonce_of(group, keys, place, secret, message, session):
    even, _ = schnorr_parts(group, secret)
    root = tagged_digest("curveseal/team", joined(keys))
    data = big(even, group.order_size) + [place] + root + big(len(session), 2) + session + message
    return scalar(group, "curveseal/nonce", data) or 1


def partial_of(group, keys, message, nonces, place, secret, nonce):
    """Return the partial signature of point 131."""
    n = group.order
    total = None
    for form in nonces:
        x, y = even_point(group, form[1:])
        total = plus(group, total, (x, y if form[0] == 2 else group.prime - y))
    whole = point_of(group, keys)
    e = challenge(group, x_form(group, total), x_form(group, whole), message)
    u, v = (1 if point[1] % 2 == 0 else n - 1 for point in (total, whole))
    even, _ = schnorr_parts(group, secret)
    return (u * nonce + e * v * shares_of(group, keys)[place] * even) % n


def keys_of(group, secrets):
    return [schnorr_key(group, secret) for secret in secrets]


def members_of(group, secrets, message, session=(7, 8)):
    keys = keys_of(group, secrets)
    return keys, [
        Member(group, keys, place, secret, message, list(session)) for place, secret in enumerate(secrets)
    ]


def all_nonces(members):
    commitments = [member.commitment() for member in members]
    return [member.reveal(commitments) for member in members]


def teams(group):
    """Return lists of secrets whose team point is not infinity, some with equal keys."""
    n = group.order
    found = [[1], [n - 1], [2, 3], [4, n - 4], [5, 5], [6, 7, 6, n - 1], list(range(1, 6))]
    return [secrets for secrets in found if point_of(group, keys_of(group, secrets)) is not None]


def infinite_team(group):
    """Return secrets of a small group whose team point is infinity."""
    for secrets in itertools.product(range(1, group.order), repeat=2):
        if point_of(group, keys_of(group, secrets)) is None:
            return list(secrets)
    raise AssertionError("there is no such team")


def sessions(group, count, message=(1,)):
    """Return tuples (keys, members, nonces) of sessions that are not refused."""
    found = []
    for number in range(100):
        secrets = [1 + (number * 3 + at) % (group.order - 1) for at in range(count)]
        if point_of(group, keys_of(group, secrets)) is None:
            continue
        keys, members = members_of(group, secrets, list(message), [number])
        nonces = all_nonces(members)
        try:
            members[0].partial(nonces)
        except Refused:
            continue
        found.append((secrets, keys, members, nonces))
        if len(found) == 6:
            return found
    raise AssertionError("there are not enough sessions")


class TeamKeyTest(unittest.TestCase):
    def test_small_and_big_groups(self):
        for name in SMALL + BIG:
            group = group_named(name)
            for secrets in teams(group):
                keys = keys_of(group, secrets)
                point = point_of(group, keys)
                self.assertEqual(team_shares(group, keys), shares_of(group, keys))
                self.assertEqual(team_point(group, keys), point)
                self.assertEqual(team_key(group, keys), x_form(group, point))

    def test_equal_keys(self):
        group = group_named("secp256k1")
        first, second = keys_of(group, [5, 6])
        shares = team_shares(group, [first, second, first])
        self.assertTrue(shares[0] == shares[2] != shares[1])
        # The root depends on how often a key stands there, and on the order.
        self.assertNotEqual(team_shares(group, [first, second])[0], shares[0])
        self.assertNotEqual(team_key(group, [first, second]), team_key(group, [second, first]))

    def test_share_whose_digest_is_zero(self):
        group = group_named("w11")
        zeros = 0
        for secrets in itertools.product(range(1, 9), repeat=2):
            keys = keys_of(group, secrets)
            root = tagged_digest("curveseal/team", joined(keys))
            for share, key in zip(team_shares(group, keys), keys):
                if scalar(group, "curveseal/share", root + key) == 0:
                    self.assertEqual(share, 1)
                    zeros += 1
        self.assertGreater(zeros, 2)

    def test_number_of_keys(self):
        for name in ("w251", "secp256k1"):
            group = group_named(name)
            keys = keys_of(group, range(1, 18))
            self.assertEqual(team_shares(group, keys[:16]), shares_of(group, keys[:16]))
            self.assertEqual(team_key(group, keys[:16]), x_form(group, point_of(group, keys[:16])))
            for wrong in ([], keys, keys + keys, [[]] * 17):
                for function in (team_shares, team_point, team_key):
                    with self.assertRaises(OutOfRange):
                        function(group, wrong)

    def test_keys_that_are_no_points(self):
        for name in ("w11", "w1021", "secp256k1"):
            group = group_named(name)
            good = keys_of(group, [1, 2])
            no_point = next(x for x in range(1, 99) if group.lift(x, False) is None)
            for wrong in ([], [0] + good[0], good[0][:-1], big(no_point, group.size), big(group.prime, group.size)):
                for keys in ([wrong], [wrong] + good, good + [wrong]):
                    for function in (team_shares, team_point, team_key):
                        with self.assertRaises(Malformed):
                            function(group, keys)

    def test_team_point_that_is_infinity(self):
        for name in ("w11", "w23", "w43"):
            group = group_named(name)
            keys = keys_of(group, infinite_team(group))
            self.assertEqual(team_shares(group, keys), shares_of(group, keys))
            for function in (team_point, team_key):
                with self.assertRaises(Refused):
                    function(group, keys)

    def test_lists(self):
        group = group_named("w251")
        for function in (team_shares, team_point, team_key):
            check_lists(self, function, group, keys_of(group, [3, 4]))


class SigningTest(unittest.TestCase):
    def check_session(self, group, secrets, message, session):
        """Check all numbers of a session, and return the parities of R and of the team point."""
        keys, members = members_of(group, secrets, message, session)
        own = [nonce_of(group, keys, place, secret, message, session) for place, secret in enumerate(secrets)]
        points = [multiple(group, nonce, group.base) for nonce in own]
        nonces = [point_form(group, point) for point in points]
        commitments = [tagged_digest("curveseal/commit", form) for form in nonces]
        self.assertEqual([member.commitment() for member in members], commitments)
        self.assertEqual([member.reveal(commitments) for member in members], nonces)
        total = None
        for point in points:
            total = plus(group, total, point)
        if total is None:
            for member in members:
                with self.assertRaises(Refused):
                    member.partial(nonces)
            return None
        numbers = [member.partial(nonces) for member in members]
        for place, secret in enumerate(secrets):
            expected = partial_of(group, keys, message, nonces, place, secret, own[place])
            self.assertEqual(numbers[place], expected)
            self.assertIs(right_partial(group, keys, message, nonces, place, expected), True)
        signature = join_partials(group, keys, message, nonces, numbers)
        last = big(sum(numbers) % group.order, group.order_size)
        self.assertEqual(signature, x_form(group, total) + last)
        self.assertIs(schnorr_accepts(group, team_key(group, keys), message, signature), True)
        if group.order > 2 ** 100:
            self.assertIs(schnorr_accepts(group, team_key(group, keys), message + [0], signature), False)
        return total[1] % 2, point_of(group, keys)[1] % 2

    def test_small_groups(self):
        parities = set()
        for name in SMALL:
            group = group_named(name)
            for secrets in teams(group):
                for message, session in (([], []), ([1, 2], [3]), ([9] * 100, [5] * 1024)):
                    parities.add(self.check_session(group, secrets, message, session))
        self.assertTrue(parities >= {(0, 0), (0, 1), (1, 0), (1, 1)})

    def test_big_groups(self):
        for name in BIG:
            group = group_named(name)
            for secrets in ([3], [3, 4], [5, 6, 5, group.order - 7]):
                self.check_session(group, secrets, [1, 2, 3], [4])
        self.check_session(group_of_521_bits(), [3, 4], [1, 2, 3], [4])

    def test_sixteen_members(self):
        group = group_named("w1021")
        self.assertIsNotNone(self.check_session(group, list(range(20, 36)), [1], [2]))

    def test_nonce_depends_on_everything(self):
        group = group_named("secp256k1")
        one, two, three = keys_of(group, [1, 2, 3])
        members = [
            Member(group, [one, two], 0, 1, [5], [6]), Member(group, [two, one], 1, 1, [5], [6]),
            Member(group, [one, three], 0, 1, [5], [6]), Member(group, [one, two], 0, 1, [6], [6]),
            Member(group, [one, two], 0, 1, [5], [7]), Member(group, [one, two], 0, 1, [], [5, 6]),
            Member(group, [one, two], 0, 1, [5, 6], []), Member(group, [one, one], 0, 1, [5], [6]),
            Member(group, [one, one], 1, 1, [5], [6]), Member(group, [one, two], 1, 2, [5], [6]),
        ]
        found = [tuple(member.commitment()) for member in members]
        self.assertEqual(len(set(found)), len(found))
        # A secret and its negative are one member.
        other = Member(group, [one, two], 0, group.order - 1, [5], [6])
        self.assertEqual(tuple(other.commitment()), found[0])

    def test_nonce_whose_digest_is_zero(self):
        group = group_named("w11")
        keys = keys_of(group, [3])
        zeros = 0
        for byte in range(100):
            nonce = nonce_of(group, keys, 0, 3, [byte], [])
            member = Member(group, keys, 0, 3, [byte], [])
            form = point_form(group, multiple(group, nonce, group.base))
            self.assertEqual(member.reveal([member.commitment()]), form)
            root = tagged_digest("curveseal/team", joined(keys))
            even = schnorr_parts(group, 3)[0]
            zeros += scalar(group, "curveseal/nonce", [even, 0] + root + [0, 0, byte]) == 0
        self.assertGreater(zeros, 1)

    def test_session_bytes_beyond_their_number(self):
        group = group_named("w251")
        keys = keys_of(group, [3])
        member = Member(group, keys, 0, 3, [1], [2] * 1025)
        nonce = nonce_of(group, keys, 0, 3, [1], [2] * 1025)
        self.assertEqual(member.reveal([member.commitment()]), point_form(group, multiple(group, nonce, group.base)))


class MemberErrorsTest(unittest.TestCase):
    def test_errors_of_the_team_key_come_first(self):
        group = group_named("w23")
        for keys in ([], keys_of(group, range(1, 18))):
            with self.assertRaises(OutOfRange):
                Member(group, keys, 99, 0, [], [])
        with self.assertRaises(Malformed):
            Member(group, [[99]], 99, 0, [], [])
        with self.assertRaises(Refused):
            Member(group, keys_of(group, infinite_team(group)), 99, 0, [], [])

    def test_places_and_secrets(self):
        for name in ("w251", "secp256k1"):
            group = group_named(name)
            keys = keys_of(group, [3, 4])
            for place in (-1, -2, 2, 3, 99):
                for secret in (3, 4, 0):
                    with self.assertRaises(OutOfRange):
                        Member(group, keys, place, secret, [], [])
            for secret in (0, -3, group.order, group.order + 3, -group.order):
                for place in (0, 1):
                    with self.assertRaises(OutOfRange):
                        Member(group, keys, place, secret, [], [])
            for place, secret in ((0, 4), (1, 3), (0, 5), (1, group.order - 3)):
                with self.assertRaises(Refused):
                    Member(group, keys, place, secret, [], [])
            Member(group, keys, 0, 3, [], [])
            Member(group, keys, 1, group.order - 4, [], [])


class RevealTest(unittest.TestCase):
    def test_lists_that_do_not_fit(self):
        group = group_named("w251")
        keys, members = members_of(group, [3, 4, 5], [1])
        commitments = [member.commitment() for member in members]
        own, other = commitments[1], [0] * 32
        wrong = [
            [], [own], commitments[:2], commitments + [own], [own, other, other], [other, other, other],
            [commitments[1], commitments[0], commitments[2]], [commitments[0], own[:-1], commitments[2]],
        ]
        for listed in wrong:
            with self.assertRaises(Refused):
                members[1].reveal(listed)
        # An error leaves the member as it was: it takes the right list, but no other one then.
        nonce = members[1].reveal(commitments)
        for listed in wrong + [[other, own, other], [commitments[0], own, other]]:
            with self.assertRaises(Refused):
                members[1].reveal(listed)
        for _ in range(3):
            self.assertEqual(members[1].reveal(commitments), nonce)
            self.assertEqual(members[1].reveal([list(each) for each in commitments]), nonce)

    def test_any_commitments_of_the_others(self):
        group = group_named("w251")
        keys, members = members_of(group, [3, 4], [1])
        listed = [members[0].commitment(), [7] * 32]
        self.assertEqual(tagged_digest("curveseal/commit", members[0].reveal(listed)), members[0].commitment())

    def test_lists_are_copied(self):
        group = group_named("w251")
        keys, message, session = keys_of(group, [3, 4]), [1, 2], [5]
        first = Member(group, keys, 0, 3, message, session)
        second = Member(group, keys, 1, 4, message, session)
        original = [list(key) for key in keys]
        commitments = [first.commitment(), second.commitment()]
        kept = [list(each) for each in commitments]
        nonces = [first.reveal(commitments), second.reveal(commitments)]
        keys[0][0] ^= 1
        keys.pop()
        message.append(3)
        session.append(3)
        commitments[1][0] ^= 1
        commitments.pop()
        first.commitment()[0] ^= 1
        first.reveal(kept)[1] ^= 1
        self.assertEqual(first.reveal(kept), nonces[0])
        shown = [list(each) for each in nonces]
        number = first.partial(shown)
        shown[1][0] ^= 1
        shown.pop()
        self.assertEqual(first.partial(nonces), number)
        self.assertIs(right_partial(group, original, [1, 2], nonces, 0, number), True)
        numbers = [number, second.partial(nonces)]
        signature = join_partials(group, original, [1, 2], nonces, numbers)
        self.assertIs(schnorr_accepts(group, team_key(group, original), [1, 2], signature), True)


class PartialTest(unittest.TestCase):
    def test_before_reveal(self):
        group = group_named("w251")
        keys, members = members_of(group, [3, 4], [1])
        commitments = [member.commitment() for member in members]
        nonces = [members_of(group, [3, 4], [1])[1][place].reveal(commitments) for place in range(2)]
        with self.assertRaises(Refused):
            members[0].partial(nonces)
        with self.assertRaises(Refused):
            members[0].reveal([])
        with self.assertRaises(Refused):
            members[0].partial(nonces)
        members[0].reveal(commitments)
        self.assertIs(right_partial(group, keys, [1], nonces, 0, members[0].partial(nonces)), True)

    def test_lists_that_do_not_fit(self):
        for name in ("w251", "secp256k1"):
            group = group_named(name)
            keys, members = members_of(group, [3, 4, 5], [1])
            nonces = all_nonces(members)
            first, own, last = nonces
            negative = [first[0] ^ 1] + first[1:]
            full = [4] + first[1:] + big(group.lift(int.from_bytes(bytes(first[1:]), "big"), False)[1], group.size)
            wrong = [
                [], [own], nonces[:2], nonces + [own], [first, first, last], [own, first, last], [last, own, first],
                [negative, own, last], [first, [own[0] ^ 1] + own[1:], last], [first, own, own], [[], own, last],
                [[0], own, last], [full, own, last], [first + [0], own, last], [first[:-1], own, last],
                [[5] + first[1:], own, last], [[2] + big(group.prime, group.size), own, last],
            ]
            for listed in wrong:
                with self.assertRaises(Refused):
                    members[1].partial(listed)
            number = members[1].partial(nonces)
            for listed in wrong:
                with self.assertRaises(Refused):
                    members[1].partial(listed)
            for _ in range(2):
                self.assertEqual(members[1].partial(nonces), number)
                self.assertEqual(members[1].partial([list(each) for each in nonces]), number)
            self.assertEqual(members[1].reveal([tagged_digest("curveseal/commit", form) for form in nonces]), own)

    def check_committed(self, group, other, works):
        """Let a member meet another one's public nonce that fits its commitment."""
        keys = keys_of(group, [3, 4])
        member = Member(group, keys, 0, 3, [1], [2])
        commitments = [member.commitment(), tagged_digest("curveseal/commit", other)]
        nonces = [member.reveal(commitments), other]
        if works:
            self.assertIs(right_partial(group, keys, [1], nonces, 0, member.partial(nonces)), True)
        else:
            with self.assertRaises(Refused):
                member.partial(nonces)
            with self.assertRaises(Refused):
                right_partial(group, keys, [1], nonces, 0, 1)

    def test_forms_that_fit_their_commitment(self):
        for name in ("w251", "secp256k1"):
            group = group_named(name)
            x, y = multiple(group, 77, group.base)
            good = point_form(group, (x, y))
            no_point = next(x for x in range(1, 99) if group.lift(x, False) is None)
            self.check_committed(group, good, True)
            self.check_committed(group, [good[0] ^ 1] + good[1:], True)
            for wrong in ([0], [], [4] + big(x, group.size) + big(y, group.size), good[1:], good + [0], good[:-1]):
                self.check_committed(group, wrong, False)
            for wrong in ([2] + big(no_point, group.size), [2] + big(group.prime, group.size), [1] + good[1:]):
                self.check_committed(group, wrong, False)

    def test_sum_that_is_infinity(self):
        for name in ("w251", "secp256k1"):
            group = group_named(name)
            keys = keys_of(group, [3, 4])
            member = Member(group, keys, 0, 3, [1], [2])
            own = member.reveal([member.commitment(), [0] * 32])
            self.check_committed(group, [own[0] ^ 1] + own[1:], False)
            self.check_committed(group, own, True)

    def test_members_with_equal_keys(self):
        group = group_named("w1021")
        for secrets, keys, members, nonces in sessions(group, 2):
            twice, both = members_of(group, [secrets[0]] * 2, [1])
            shown = all_nonces(both)
            numbers = [member.partial(shown) for member in both]
            signature = join_partials(group, twice, [1], shown, numbers)
            self.assertIs(schnorr_accepts(group, team_key(group, twice), [1], signature), True)


class RightPartialTest(unittest.TestCase):
    def test_exactly_one_number_is_right(self):
        for name in ("w11", "w23"):
            group = group_named(name)
            n = group.order
            for _, keys, members, nonces in sessions(group, 2):
                for place, member in enumerate(members):
                    number = member.partial(nonces)
                    self.assertTrue(0 <= number < n)
                    for other in range(-n, 2 * n + 1):
                        right = right_partial(group, keys, [1], nonces, place, other)
                        self.assertIs(right, other == number)

    def test_big_groups(self):
        for name in BIG:
            group = group_named(name)
            for _, keys, members, nonces in sessions(group, 3)[:2]:
                number = members[1].partial(nonces)
                self.assertIs(right_partial(group, keys, [1], nonces, 1, number), True)
                for other in (0, -1, number + 1, number - 1, group.order - number, number + group.order, 2 ** 600):
                    self.assertIs(right_partial(group, keys, [1], nonces, 1, other), False)
                self.assertIs(right_partial(group, keys, [1], nonces, 0, number), False)
                self.assertIs(right_partial(group, keys, [2], nonces, 1, number), False)

    def test_errors(self):
        group = group_named("w251")
        _, keys, members, nonces = sessions(group, 2)[0]
        number = members[0].partial(nonces)
        calls = (
            lambda *arguments: right_partial(*arguments, 0, number),
            lambda *arguments: join_partials(*arguments, [number, members[1].partial(nonces)]),
            # The errors of the lists come before those of the place and the numbers.
            lambda *arguments: right_partial(*arguments, 99, number),
            lambda *arguments: join_partials(*arguments, []),
        )
        for call in calls:
            with self.assertRaises(OutOfRange):
                call(group, [], [1], nonces)
            with self.assertRaises(OutOfRange):
                call(group, keys * 9, [1], [])
            with self.assertRaises(Malformed):
                call(group, [keys[0], []], [1], [])
            for wrong in ([], nonces[:1], nonces + nonces[:1], [nonces[0], [0]], [nonces[0], []], [[4], nonces[1]]):
                with self.assertRaises(Refused):
                    call(group, keys, [1], wrong)
            negative = [nonces[0][0] ^ 1] + nonces[0][1:]
            with self.assertRaises(Refused):
                call(group, keys, [1], [nonces[0], negative])
        small = group_named("w23")
        infinite = keys_of(small, infinite_team(small))
        good = point_form(small, small.base)
        with self.assertRaises(Refused):
            right_partial(small, infinite, [1], [good, good], 99, 1)
        with self.assertRaises(Refused):
            join_partials(small, infinite, [1], [good, good], [1, 1])

    def test_places(self):
        group = group_named("w251")
        _, keys, members, nonces = sessions(group, 2)[0]
        number = members[0].partial(nonces)
        for place in (-1, -2, 2, 3, 99):
            for other in (number, -1):
                with self.assertRaises(OutOfRange):
                    right_partial(group, keys, [1], nonces, place, other)

    def test_lists(self):
        group = group_named("w251")
        _, keys, members, nonces = sessions(group, 2)[0]
        check_lists(self, right_partial, group, keys, [1], nonces, 0, members[0].partial(nonces))
        numbers = [member.partial(nonces) for member in members]
        check_lists(self, join_partials, group, keys, [1], nonces, numbers)


class JoinPartialsTest(unittest.TestCase):
    def test_numbers_that_are_not_right(self):
        for name in ("w11", "w251", "secp256k1"):
            group = group_named(name)
            n = group.order
            for _, keys, members, nonces in sessions(group, 3)[:2]:
                numbers = [member.partial(nonces) for member in members]
                signature = join_partials(group, keys, [1], nonces, numbers)
                self.assertIs(schnorr_accepts(group, team_key(group, keys), [1], signature), True)
                first, second, third = numbers
                wrong = [
                    [], numbers[:2], numbers + [0], [first + 1, second, third], [first, second, third - 1],
                    [first + n, second, third], [first, second - n, third],
                    # The sum is the same.
                    [(first + 1) % n, (second - 1) % n, third],
                ]
                for listed in wrong:
                    with self.assertRaises(Refused):
                        join_partials(group, keys, [1], nonces, listed)

    def test_one_number_that_is_not_right_is_not_accepted(self):
        group = group_named("w251")
        _, keys, members, nonces = sessions(group, 2)[0]
        numbers = [member.partial(nonces) for member in members]
        signature = join_partials(group, keys, [1], nonces, numbers)
        for other in range(group.order):
            last = big((numbers[0] + other) % group.order, group.order_size)
            accepted = schnorr_accepts(group, team_key(group, keys), [1], signature[:group.size] + last)
            self.assertIs(accepted, other == numbers[1])


if __name__ == "__main__":
    unittest.main()
