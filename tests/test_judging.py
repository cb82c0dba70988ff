"""Points 172 and 173: curveseal.judging."""

import itertools
import random
import unittest

import model
from curveseal.desk import Desk
from curveseal.errors import Malformed, OutOfRange
from curveseal.judging import common_beginning, good_path, judge
from lists import check_lists
from model import Actor
from values import ODD_VALUES

ACTORS = tuple(
    Actor(name, secret) for secret in range(5, 9) for name in ("schnorr-secp256k1", "ecdsa-w31", "eddsa-e31")
)
ROOTS = [ACTORS[0].key, ACTORS[1].key]


def made_desk(start, count):
    """Return a desk with entries that were chosen by chance and accepted."""
    chosen = random.Random(start)
    desk = Desk("main", ROOTS)
    while len(desk.log()) < count:
        able = [actor for actor in ACTORS if desk.status(actor.key) == "in force"]
        author, other = chosen.choice(able), chosen.choice(ACTORS[1:])
        kind = chosen.choice(("state", "admit", "admit", "admit", "replace", "withdraw"))
        if kind == "state":
            desk.offer(author.state(desk, chosen.randrange(256)))
        elif kind == "admit":
            desk.offer(author.admit(desk, other.key, "asw"))
        elif kind == "replace" and author is not ACTORS[0]:
            desk.offer(author.replace(desk, other))
        elif kind == "withdraw" and chosen.random() < 0.5:
            desk.offer(author.withdraw(desk, other.key))
    return desk


def expected_path(roots, log, index, key, path):
    """Return the answer of point 172, condition by condition."""
    if not 0 <= index <= len(log):
        return False
    if any(at < 0 or at >= index for at in path) or sorted(set(path)) != path:
        return False
    current, line = None, []
    for at in path:
        kind, author, body, _ = log[at]
        if kind not in ("admit", "replace"):
            return False
        if (current is None and author not in roots) or (current is not None and author != current):
            return False
        line += [author, body[0]]
        current = body[0]
    if current is None:
        if key not in roots:
            return False
        line = [key]
    elif current != key:
        return False
    return not any(log[at][0] == "withdraw" and log[at][2][0] in line for at in range(index))


class JudgeTest(unittest.TestCase):
    def test_logs_of_a_desk(self):
        for start in range(3):
            desk = made_desk(start, 14)
            log = desk.log()
            for count in range(len(log) + 1):
                self.assertEqual(judge("main", ROOTS, log[:count]), (count, ""))
            self.assertIs(type(judge("main", ROOTS, log)), tuple)
        self.assertEqual(judge("main", ROOTS, []), (0, ""))

    def test_other_logs(self):
        log = made_desk(1, 10).log()
        for at in range(len(log)):
            changed = [log[:at] + log[at + 1:], log[:at] + [log[at]] + log[at:], log[:at] + [log[-1]] + log[at + 1:]]
            if at + 1 < len(log):
                changed.append(log[:at] + [log[at + 1], log[at]] + log[at + 2:])
            for other in changed:
                same = common_beginning(log, other)
                if same == len(other):
                    self.assertEqual(judge("main", ROOTS, other), (same, ""))
                    continue
                count, reason = judge("main", ROOTS, other)
                self.assertEqual(count, same)
                self.assertEqual(reason, model.reason("main", ROOTS, log[:same], other[same]))
                self.assertNotEqual(reason, "")

    def test_other_desks(self):
        log = made_desk(2, 5).log()
        for name, roots in (("other", ROOTS), ("main", ROOTS[::-1]), ("main", ROOTS + [ACTORS[-1].key])):
            self.assertEqual(judge(name, roots, log)[0], 0)
            self.assertEqual(judge(name, roots, log)[1], model.reason(name, roots, [], log[0]))

    def test_values_that_are_no_entries(self):
        log = made_desk(2, 3).log()
        for value in ODD_VALUES:
            self.assertEqual(judge("main", ROOTS, [value]), (0, "form"))
            self.assertEqual(judge("main", ROOTS, log + [value, None]), (3, "form"))

    def test_errors_of_a_desk(self):
        for name, roots in (("", ROOTS), ("a" * 33, ROOTS), ("A", ROOTS), ("a", []), ("a", ROOTS * 2)):
            with self.assertRaises(OutOfRange):
                judge(name, roots, [])
        with self.assertRaises(Malformed):
            judge("a", ["no key"], [])

    def test_lists(self):
        check_lists(self, judge, "main", list(ROOTS), made_desk(1, 4).log())


class GoodPathTest(unittest.TestCase):
    def test_path_of_each_key_at_each_index(self):
        withdrawn = 0
        for start in range(6):
            desk = made_desk(start, 18)
            log = desk.log()
            for key in desk.known():
                path = desk.path(key)
                for index in range(len(log) + 1):
                    answer = good_path(ROOTS, log, index, key, path)
                    self.assertIs(answer, expected_path(ROOTS, log, index, key, path))
                    status = model.status(ROOTS, log[:index], key)
                    self.assertIs(answer, status not in ("unknown", "withdrawn"))
                    withdrawn += status == "withdrawn"
                # A known key is withdrawn exactly if its path is not good at the length of the log.
                self.assertIs(good_path(ROOTS, log, len(log), key, path), desk.status(key) != "withdrawn")
            for index, entry in enumerate(log):
                self.assertIs(good_path(ROOTS, log, index, entry[1], desk.path(entry[1])), True)
        self.assertGreater(withdrawn, 10)

    def test_all_short_paths(self):
        good = 0
        for start in range(3):
            desk = made_desk(start, 8)
            log = desk.log()
            keys = desk.known() + [actor.key for actor in ACTORS if actor.key not in desk.known()][:1]
            for length in range(4):
                for path in itertools.product(range(-1, 9), repeat=length):
                    for key in keys:
                        expected = expected_path(ROOTS, log, 8, key, list(path))
                        self.assertIs(good_path(ROOTS, log, 8, key, list(path)), expected)
                        good += expected
            for key in keys:
                found = [
                    list(path) for length in range(4) for path in itertools.combinations(range(8), length)
                    if good_path(ROOTS, log, 8, key, list(path))
                ]
                self.assertIn(found, ([], [desk.path(key)] if key in desk.known() else []))
        self.assertGreater(good, 9)

    def test_each_condition(self):
        desk = Desk("main", ROOTS)
        ann, bob, cid, dan, eve = ACTORS[:5]
        desk.offer(ann.admit(desk, cid.key, "asw"))
        desk.offer(ann.state(desk, 1))
        desk.offer(cid.replace(desk, dan))
        desk.offer(dan.admit(desk, eve.key, "s"))
        log = desk.log()
        path = desk.path(eve.key)
        self.assertEqual(path, [0, 2, 3])
        for index in range(-2, 8):
            self.assertIs(good_path(ROOTS, log, index, eve.key, path), index == 4)
            self.assertIs(good_path(ROOTS, log, index, dan.key, [0, 2]), index in (3, 4))
            self.assertIs(good_path(ROOTS, log, index, ann.key, []), 0 <= index <= 4)
            self.assertIs(good_path(ROOTS, log, index, eve.key, []), False)
        wrong = (
            [], [3], [2, 3], [0, 3], [0, 2], [3, 2, 0], [0, 0, 2, 3], [0, 2, 2, 3], [0, 2, 3, 3], [0, 1, 2, 3],
            [0, 1, 3], [1], [0, 2, 4], [0, 2, 3, 4], [0, 2, -1], [-4, 2, 3], [-4, -2, -1], [-1, 0, 2, 3],
        )
        for other in wrong:
            self.assertIs(good_path(ROOTS, log, 4, eve.key, other), False)
        for key in (ann.key, bob.key, cid.key, dan.key, "", ACTORS[5].key):
            self.assertIs(good_path(ROOTS, log, 4, key, path), False)
        for roots in ([], [bob.key], [cid.key], [dan.key]):
            self.assertIs(good_path(roots, log, 4, eve.key, path), False)
        self.assertIs(good_path([dan.key], log, 4, eve.key, [3]), True)
        # A withdrawal counts only before the index, and for each key of the line.
        ended = ((ann, ann, True), (ann, cid, True), (cid, dan, True), (dan, eve, True), (bob, bob, False))
        for author, target, ends in ended:
            longer = log + [("withdraw", author.key, (target.key,), ())]
            self.assertIs(good_path(ROOTS, longer, 4, eve.key, path), True)
            self.assertIs(good_path(ROOTS, longer, 5, eve.key, path), not ends)
        self.assertIs(good_path(ROOTS, [("withdraw", ann.key, (bob.key,), ())], 1, bob.key, []), False)

    def test_signatures_are_not_looked_at(self):
        log = made_desk(3, 12).log()
        plain = [entry[:3] + ((),) for entry in log]
        desk = Desk("main", ROOTS)
        for entry in log:
            desk.offer(entry)
        for key in desk.known():
            for index in range(13):
                expected = good_path(ROOTS, log, index, key, desk.path(key))
                self.assertIs(good_path(ROOTS, plain, index, key, desk.path(key)), expected)

    def test_lists(self):
        desk = made_desk(1, 6)
        for key in desk.known():
            check_lists(self, good_path, list(ROOTS), desk.log(), 6, key, desk.path(key))


class CommonBeginningTest(unittest.TestCase):
    def test_logs(self):
        log = made_desk(1, 7).log()
        other = made_desk(2, 7).log()
        for first, second in itertools.product(range(8), repeat=2):
            self.assertEqual(common_beginning(log[:first], log[:second]), min(first, second))
            self.assertEqual(common_beginning(log[:first] + other, log[:first] + other[1:] + log), first)
        self.assertEqual(common_beginning([], []), 0)
        self.assertEqual(common_beginning(log, other), 0)
        for at in range(7):
            changed = list(log)
            changed[at] = log[at][:3] + ((),)
            self.assertEqual(common_beginning(log, changed), at)
            self.assertEqual(common_beginning(changed, log), at)
        check_lists(self, common_beginning, log, log[:3])


if __name__ == "__main__":
    unittest.main()
