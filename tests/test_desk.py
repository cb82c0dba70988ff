"""Points 165 and 168 to 172: curveseal.desk."""

import copy
import itertools
import random
import unittest

import model
from curveseal.desk import Desk
from curveseal.entries import first_head, next_head
from curveseal.errors import Malformed, OutOfRange, Refused
from model import Actor
from values import ODD_VALUES

ANN, BOB, CID, DAN, EVE, FAY = (
    Actor("schnorr-w31", 5), Actor("ecdsa-w31", 6), Actor("eddsa-e31", 7), Actor("ecdsa-secp256k1", 8),
    Actor("eddsa-ed25519", 9), Actor("schnorr-p256", 10),
)
ACTORS = (ANN, BOB, CID, DAN, EVE, FAY)
NEW = tuple(Actor(name, secret) for name in ("schnorr-w31", "ecdsa-w31", "eddsa-e31") for secret in range(20, 24))
RIGHTS = ("", "a", "s", "w", "as", "aw", "sw", "asw")


def opened(*actors):
    return Desk("main", [actor.key for actor in actors or (ANN,)])


def view(desk):
    """Return all that a desk tells of itself and of its keys, as a copy."""
    keys = [actor.key for actor in ACTORS + NEW]
    return copy.deepcopy((
        desk.log(), desk.head(), desk.known(), [desk.status(key) for key in keys], [desk.rights(key) for key in keys],
        [(desk.line(key), desk.path(key)) for key in desk.known()],
    ))


class MakingTest(unittest.TestCase):
    def test_new_desk(self):
        for count in (1, 2, 3):
            roots = [actor.key for actor in ACTORS[:count]]
            desk = Desk("main", roots)
            self.assertEqual((desk.log(), desk.known()), ([], roots))
            self.assertEqual(desk.head(), first_head("main", roots))
            for key in roots:
                self.assertEqual((desk.status(key), desk.rights(key)), ("in force", "asw"))
                self.assertEqual((desk.line(key), desk.path(key)), ([key], []))
            self.assertEqual((desk.status(FAY.key), desk.rights(FAY.key)), ("unknown", None))

    def test_names(self):
        for name in ("a", "z", "main", "a" * 31, "a" * 32, "abcdefghijklmnopqrstuvwxyz"):
            self.assertEqual(Desk(name, [ANN.key]).head(), first_head(name, [ANN.key]))
        wrong = ("", "a" * 33, "a" * 100, "A", "Main", "a b", "a1", "a-b", "a\n", " a", "a ", "\xe4", "a_b", "`", "{")
        for name in wrong:
            for roots in ([ANN.key], [], ["no key"], [ANN.key] * 2):
                with self.assertRaises(OutOfRange):
                    Desk(name, roots)

    def test_numbers_of_roots(self):
        keys = [actor.key for actor in ACTORS + NEW]
        for count in (1, 2, 15, 16):
            self.assertEqual(Desk("main", keys[:count]).known(), keys[:count])
        more = [f"key {at}" for at in range(18)]
        for roots in ([], keys[:17], keys[:18], more[:17], more):
            with self.assertRaises(OutOfRange):
                Desk("main", roots)

    def test_roots(self):
        for roots in ([ANN.key, ANN.key], [ANN.key, BOB.key, ANN.key], ["x", "x"], ["x", ANN.key, "x"]):
            with self.assertRaises(OutOfRange):
                Desk("main", roots)
        texts = ("", "x", ANN.key[:-1], ANN.key + " ", ANN.key.upper(), ANN.key[:-1] + "x", "ecdsa-w11:00:00000000")
        for wrong in texts:
            for roots in ([wrong], [ANN.key, wrong], [wrong, ANN.key]):
                with self.assertRaises(Malformed):
                    Desk("main", roots)

    def test_list_of_roots_is_copied(self):
        roots = [ANN.key, BOB.key]
        desk = Desk("main", roots)
        roots.append(CID.key)
        roots[0] = DAN.key
        self.assertEqual(desk.known(), [ANN.key, BOB.key])
        self.assertEqual(roots, [DAN.key, BOB.key, CID.key])

    def test_lists_that_are_handed_out(self):
        desk = opened()
        desk.offer(ANN.admit(desk, BOB.key, "s"))
        before = view(desk)
        for call in (desk.log, desk.head, desk.known, lambda: desk.line(BOB.key), lambda: desk.path(BOB.key)):
            call().append(None)
            call().clear()
            self.assertEqual(view(desk), before)


class AcceptedTest(unittest.TestCase):
    def test_state(self):
        desk = opened(ANN, BOB)
        entries = []
        for actor, data in ((ANN, ()), (BOB, (1, 2)), (ANN, (255,) * 1024), (ANN, ())):
            entry = actor.state(desk, *data)
            head = desk.head()
            self.assertEqual(desk.would(entry), "")
            self.assertEqual((desk.log(), desk.head()), (entries, head))
            self.assertEqual(desk.offer(entry), "")
            entries.append(entry)
            self.assertEqual((desk.log(), desk.head()), (entries, next_head(head, entry)))
            # It was signed for this place of the log only.
            self.assertEqual(desk.offer(entry), "signature")
        self.assertEqual(desk.head(), model.plain_head("main", [ANN.key, BOB.key], entries))
        self.assertEqual(desk.known(), [ANN.key, BOB.key])

    def test_every_right_is_admitted(self):
        for granted in RIGHTS:
            desk = opened()
            self.assertEqual(desk.offer(ANN.admit(desk, BOB.key, granted)), "")
            self.assertEqual((desk.status(BOB.key), desk.rights(BOB.key)), ("in force", granted))
            self.assertEqual((desk.line(BOB.key), desk.path(BOB.key)), ([BOB.key, ANN.key], [0]))
            self.assertEqual(desk.known(), [ANN.key, BOB.key])
            self.assertEqual(desk.would(BOB.state(desk, 1)), "" if "s" in granted else "right")
            for more in RIGHTS:
                expected = "right" if "a" not in granted else "" if set(more) <= set(granted) else "rights"
                self.assertEqual(desk.would(BOB.admit(desk, CID.key, more)), expected)
            self.assertEqual(desk.would(BOB.withdraw(desk, ANN.key)), "target" if "w" in granted else "right")
            self.assertEqual(desk.would(BOB.withdraw(desk, BOB.key)), "")
            self.assertEqual(desk.would(BOB.replace(desk, CID)), "")

    def test_every_scheme_may_sign(self):
        desk = opened()
        for index, actor in enumerate(ACTORS[1:]):
            self.assertEqual(desk.offer(ANN.admit(desk, actor.key, "asw")), "")
            self.assertEqual(desk.offer(actor.state(desk, index)), "")
        self.assertEqual(desk.known(), [actor.key for actor in ACTORS])
        for actor, other in zip(ACTORS[::-1], NEW):
            self.assertEqual(desk.offer(actor.replace(desk, other)), "")
            self.assertEqual(desk.offer(other.state(desk)), "")

    def test_replacement(self):
        desk = opened()
        desk.offer(ANN.admit(desk, BOB.key, "sw"))
        self.assertEqual(desk.offer(BOB.replace(desk, CID)), "")
        self.assertEqual([desk.status(actor.key) for actor in (ANN, BOB, CID)], ["in force", "replaced", "in force"])
        self.assertEqual([desk.rights(actor.key) for actor in (ANN, BOB, CID)], ["asw", "sw", "sw"])
        self.assertEqual(desk.line(CID.key), [CID.key, BOB.key, ANN.key])
        self.assertEqual(desk.path(CID.key), [0, 1])
        for entry in (
            BOB.state(desk), BOB.replace(desk, DAN), BOB.withdraw(desk, BOB.key), BOB.withdraw(desk, CID.key),
        ):
            self.assertEqual(desk.offer(entry), "replaced")
        self.assertEqual(desk.offer(CID.state(desk)), "")
        # The successor is not above the key that it replaces.
        self.assertEqual(desk.would(CID.withdraw(desk, BOB.key)), "target")
        self.assertEqual(desk.offer(CID.replace(desk, DAN)), "")
        self.assertEqual((desk.line(DAN.key), desk.path(DAN.key)), ([DAN.key, CID.key, BOB.key, ANN.key], [0, 1, 3]))
        # What ends the first key ends its successors.
        self.assertEqual(desk.offer(ANN.withdraw(desk, BOB.key)), "")
        statuses = [desk.status(actor.key) for actor in (ANN, BOB, CID, DAN)]
        self.assertEqual(statuses, ["in force", "withdrawn", "withdrawn", "withdrawn"])
        self.assertEqual(desk.rights(DAN.key), "sw")

    def test_replaced_root(self):
        desk = opened()
        self.assertEqual(desk.offer(ANN.replace(desk, BOB)), "")
        self.assertEqual((desk.status(ANN.key), desk.rights(BOB.key)), ("replaced", "asw"))
        self.assertEqual((desk.line(BOB.key), desk.path(BOB.key)), ([BOB.key, ANN.key], [0]))
        self.assertEqual(desk.would(BOB.withdraw(desk, ANN.key)), "target")
        self.assertEqual(desk.would(BOB.admit(desk, ANN.key, "s")), "known")

    def test_keys_below_a_replaced_one(self):
        desk = opened()
        desk.offer(ANN.admit(desk, BOB.key, "as"))
        desk.offer(BOB.admit(desk, CID.key, "s"))
        desk.offer(BOB.replace(desk, DAN))
        self.assertEqual(desk.status(CID.key), "in force")
        self.assertEqual(desk.offer(CID.state(desk, 1)), "")
        self.assertEqual(desk.line(CID.key), [CID.key, BOB.key, ANN.key])
        self.assertEqual(desk.path(CID.key), [0, 1])

    def test_withdrawal(self):
        desk = opened(ANN, FAY)
        for author, actor in ((ANN, BOB), (BOB, CID), (CID, DAN), (ANN, EVE)):
            self.assertEqual(desk.offer(author.admit(desk, actor.key, "asw")), "")
        self.assertEqual(desk.offer(BOB.withdraw(desk, CID.key)), "")
        statuses = [desk.status(actor.key) for actor in ACTORS]
        self.assertEqual(statuses, ["in force", "in force", "withdrawn", "withdrawn", "in force", "in force"])
        for actor in (CID, DAN):
            for entry in (
                actor.state(desk), actor.admit(desk, NEW[0].key, ""), actor.replace(desk, NEW[0]),
                actor.withdraw(desk, actor.key),
            ):
                self.assertEqual(desk.offer(entry), "withdrawn")
        for actor, target, expected in (
            (ANN, CID, "gone"), (ANN, DAN, "gone"), (BOB, DAN, "gone"), (FAY, DAN, "target"), (EVE, CID, "target"),
            (BOB, ANN, "target"), (BOB, EVE, "target"), (ANN, FAY, "target"), (ANN, NEW[0], "target"), (ANN, BOB, ""),
            (EVE, EVE, ""), (ANN, ANN, ""),
        ):
            self.assertEqual(desk.would(actor.withdraw(desk, target.key)), expected)
        for actor in (CID, DAN):
            self.assertEqual(desk.would(ANN.admit(desk, actor.key, "s")), "known")
        self.assertEqual(desk.rights(DAN.key), "asw")
        self.assertEqual(desk.offer(ANN.withdraw(desk, ANN.key)), "")
        statuses = [desk.status(actor.key) for actor in ACTORS]
        self.assertEqual(statuses, ["withdrawn"] * 5 + ["in force"])
        self.assertEqual(desk.offer(FAY.state(desk)), "")

    def test_key_that_was_replaced_and_then_withdrawn(self):
        desk = opened()
        desk.offer(ANN.admit(desk, BOB.key, "s"))
        desk.offer(BOB.replace(desk, CID))
        desk.offer(ANN.withdraw(desk, CID.key))
        self.assertEqual([desk.status(actor.key) for actor in (BOB, CID)], ["replaced", "withdrawn"])
        self.assertEqual(desk.would(BOB.state(desk)), "replaced")
        self.assertEqual(desk.offer(ANN.withdraw(desk, BOB.key)), "")
        self.assertEqual(desk.status(BOB.key), "withdrawn")
        self.assertEqual(desk.would(BOB.state(desk)), "withdrawn")


class RefusedTest(unittest.TestCase):
    def setUp(self):
        # ANN and FAY are roots; BOB may do nothing, CID was withdrawn, DAN was replaced by EVE.
        self.desk = opened(ANN, FAY)
        for actor, granted in ((BOB, ""), (CID, "asw"), (DAN, "as")):
            self.assertEqual(self.desk.offer(ANN.admit(self.desk, actor.key, granted)), "")
        self.assertEqual(self.desk.offer(ANN.withdraw(self.desk, CID.key)), "")
        self.assertEqual(self.desk.offer(DAN.replace(self.desk, EVE)), "")
        self.before = view(self.desk)

    def check(self, entry, expected):
        self.assertEqual(self.desk.would(entry), expected)
        self.assertEqual(self.desk.offer(entry), expected)
        self.assertEqual(self.desk.offer(entry), expected)
        # A refused entry changes nothing.
        self.assertEqual(view(self.desk), self.before)

    def test_form(self):
        for value in ODD_VALUES:
            self.check(value, "form")
        good = ANN.state(self.desk, 1)
        for place in range(4):
            self.check(good[:place] + (None,) + good[place + 1:], "form")
        self.check(list(good), "form")
        self.check(good[:2] + (((1,) * 1025,),) + good[3:], "form")
        self.check(good[:3] + ((1,) * 257,), "form")
        self.check(("admit", ANN.key, (NEW[0].key, "sa"), good[3]), "form")
        # The form comes before the author.
        self.check(("state", NEW[0].key, ([],), ()), "form")
        self.check(("state", "a" * 601, ((),), ()), "form")

    def test_author(self):
        for kind, body in (
            ("state", ((),)), ("admit", (NEW[0].key, "s")), ("admit", ("no key", "")), ("withdraw", (NEW[0].key,)),
            ("replace", (NEW[1].key, ())), ("replace", (ANN.key, ())), ("withdraw", ("no key",)),
        ):
            for author in (NEW[0].key, NEW[5].key, "", "no key", ANN.key.upper(), ANN.key + " ", " " + ANN.key):
                self.check((kind, author, body, ()), "unknown")
            self.check((kind, CID.key, body, ()), "withdrawn")
            self.check((kind, DAN.key, body, ()), "replaced")
        self.check(NEW[0].state(self.desk), "unknown")
        self.check(CID.state(self.desk), "withdrawn")
        self.check(DAN.state(self.desk), "replaced")
        # A withdrawn key may not withdraw itself again, nor may a replaced one withdraw itself.
        self.check(CID.withdraw(self.desk, CID.key), "withdrawn")
        self.check(DAN.withdraw(self.desk, DAN.key), "replaced")

    def test_right(self):
        for signature in ((), (1, 2)):
            self.check(("state", BOB.key, ((),), signature), "right")
            # The missing right comes before the key, the rights and the target.
            for key in (NEW[0].key, "no key", ANN.key, BOB.key):
                for granted in ("", "s", "asw"):
                    self.check(("admit", BOB.key, (key, granted), signature), "right")
            for key in (ANN.key, CID.key, NEW[0].key, "no key"):
                self.check(("withdraw", BOB.key, (key,), signature), "right")
        self.check(("withdraw", EVE.key, (CID.key,), ()), "right")
        self.check(("withdraw", BOB.key, (BOB.key,), ()), "signature")
        self.check(("replace", BOB.key, ("no key", ()), ()), "key")

    def test_new_key(self):
        texts = ("", "no key", NEW[0].key.upper(), NEW[0].key + " ", NEW[0].key[:-1], "ecdsa-w11:00:00000000")
        for text in texts:
            for granted in ("", "asw"):
                self.check(("admit", ANN.key, (text, granted), ()), "key")
                # The key comes before the rights.
                self.check(("admit", EVE.key, (text, granted), ()), "key")
            self.check(("replace", ANN.key, (text, (1,)), ()), "key")
            self.check(("replace", BOB.key, (text, ()), ()), "key")
        for actor in (ANN, FAY, BOB, CID, DAN, EVE):
            for granted in ("", "asw"):
                self.check(("admit", ANN.key, (actor.key, granted), ()), "known")
                self.check(("admit", EVE.key, (actor.key, granted), ()), "known")
            # It comes before the consent, too.
            self.check(("replace", BOB.key, (actor.key, ()), ()), "known")
            self.check(BOB.replace(self.desk, actor), "known")

    def test_rights(self):
        for granted in RIGHTS:
            self.check(("admit", EVE.key, (NEW[0].key, granted), ()), "rights" if "w" in granted else "signature")
            self.check(("admit", ANN.key, (NEW[0].key, granted), ()), "signature")
        self.check(EVE.admit(self.desk, NEW[0].key, "asw"), "rights")

    def test_consent(self):
        good = BOB.replace(self.desk, NEW[0])
        self.assertEqual(self.desk.would(good), "")
        key, consent = good[2]
        other_key = BOB.replace(self.desk, NEW[1])[2][1]
        other_author = EVE.replace(self.desk, NEW[0])[2][1]
        own = BOB.entry(self.desk.head(), "replace", (key, ()))[3]
        elsewhere = BOB.replace(opened(ANN), NEW[0])[2][1]
        changed = consent[:-1] + (consent[-1] ^ 1,)
        for wrong in ((), (0,), consent[:-1], consent + (0,), other_key, other_author, own, elsewhere, changed):
            for signature in (good[3], ()):
                self.check(("replace", BOB.key, (key, wrong), signature), "consent")
        # The consent is not signed by the author, but the key is.
        self.check(("replace", BOB.key, (NEW[1].key, other_key), good[3]), "signature")

    def test_target(self):
        for actor, key, expected in (
            (ANN, NEW[0].key, "target"), (ANN, "no key", "target"), (ANN, "", "target"), (ANN, FAY.key, "target"),
            (FAY, ANN.key, "target"), (FAY, BOB.key, "target"), (FAY, CID.key, "target"), (ANN, CID.key, "gone"),
            (ANN, BOB.key, "signature"), (ANN, DAN.key, "signature"), (ANN, EVE.key, "signature"),
            (ANN, ANN.key, "signature"), (EVE, EVE.key, "signature"),
        ):
            self.check(("withdraw", actor.key, (key,), ()), expected)

    def test_signature(self):
        desk = self.desk
        for entry in (
            ANN.state(desk, 1), ANN.admit(desk, NEW[0].key, "s"), BOB.replace(desk, NEW[0]),
            ANN.withdraw(desk, BOB.key), BOB.withdraw(desk, BOB.key),
        ):
            self.assertEqual(desk.would(entry), "")
            kind, author, body, signature = entry
            for wrong in ((), (0,), signature[:-1], signature + (0,), signature[:-1] + (signature[-1] ^ 1,)):
                self.check((kind, author, body, wrong), "signature")
            if author == ANN.key:
                self.check((kind, FAY.key, body, signature), "target" if kind == "withdraw" else "signature")
        signature = ANN.state(desk, 1)[3]
        for data in ((), (2,), (1, 0), (1, 1)):
            self.check(("state", ANN.key, (data,), signature), "signature")
        signature = ANN.admit(desk, NEW[0].key, "s")[3]
        for body in ((NEW[1].key, "s"), (NEW[0].key, ""), (NEW[0].key, "as")):
            self.check(("admit", ANN.key, body, signature), "signature")

    def test_signature_for_another_place(self):
        desk = self.desk
        other = Desk("other", desk.known()[:2])
        self.check(ANN.state(other, 1), "signature")
        self.check(ANN.state(opened(FAY, ANN), 1), "signature")
        self.check(desk.log()[0], "known")
        early = ANN.state(desk, 1)
        self.assertEqual(desk.offer(FAY.state(desk, 1)), "")
        self.before = view(desk)
        self.check(early, "signature")

    def test_signature_of_another_form(self):
        # The one form of a signature belongs to the scheme, so a desk does not take another one.
        desk = opened(DAN)
        kind, author, body, signature = DAN.state(desk, 1)
        content = signature[2:]
        self.assertEqual(desk.would((kind, author, body, (48, 129, len(content)) + content)), "signature")
        self.assertEqual(desk.would((kind, author, body, signature)), "")

    def test_keys_that_are_not_known(self):
        for key in (NEW[0].key, "", "no key", ANN.key + " "):
            self.assertEqual((self.desk.status(key), self.desk.rights(key)), ("unknown", None))
            for call in (self.desk.line, self.desk.path):
                with self.assertRaises(Refused):
                    call(key)
        self.assertEqual(view(self.desk), self.before)


class ModelTest(unittest.TestCase):
    """Desks that are offered entries by chance, beside a look at the whole log."""

    def random_entry(self, chosen, desk):
        actors = list(ACTORS[:3] + NEW)
        author, other = chosen.choice(actors), chosen.choice(actors)
        able = [actor for actor in actors if desk.status(actor.key) == "in force"]
        if able and chosen.random() < 0.8:
            author = chosen.choice(able)
        kind = chosen.choice(("state", "admit", "admit", "admit", "replace", "withdraw", "withdraw"))
        if kind == "state":
            entry = author.state(desk, chosen.randrange(4))
        elif kind == "admit":
            entry = author.admit(desk, other.key, chosen.choice(RIGHTS + ("asw",) * 6))
        elif kind == "replace":
            entry = author.replace(desk, other)
        else:
            entry = author.withdraw(desk, chosen.choice((author,) + (other,) * 9).key)
        if chosen.random() < 0.2:
            kind, key, body, signature = entry
            entry = chosen.choice((
                (kind, other.key, body, signature), (kind, key, body, signature[:-1]), (kind, key, body),
                (kind, key, ("no key",) + body[1:], signature), (kind, key, (chosen.choice(ACTORS).key, ()), signature),
            ))
        return entry

    def check_keys(self, desk, roots):
        log = desk.log()
        self.assertEqual(desk.known(), model.known(roots, log))
        self.assertEqual(desk.head(), model.plain_head("main", roots, log))
        for actor in ACTORS + NEW:
            self.assertEqual(desk.status(actor.key), model.status(roots, log, actor.key))
            self.assertEqual(desk.rights(actor.key), model.rights(roots, log, actor.key))
        for key in desk.known():
            self.assertEqual(desk.line(key), model.line(roots, log, key))
            self.assertEqual(desk.path(key), model.path(roots, log, key))

    def test_many_entries(self):
        found = set()
        for start in range(6):
            chosen = random.Random(start)
            roots = [actor.key for actor in ACTORS[:1 + start % 3]]
            desk = Desk("main", roots)
            for _ in range(150):
                entry = self.random_entry(chosen, desk)
                log = desk.log()
                expected = model.reason("main", roots, log, entry)
                self.assertEqual(desk.would(entry), expected)
                self.assertEqual(desk.offer(entry), expected)
                self.assertEqual(desk.log(), log + [entry] if expected == "" else log)
                self.check_keys(desk, roots)
                found.add((expected, entry[0]) if expected == "" else expected)
        accepted = {("", kind) for kind in ("state", "admit", "replace", "withdraw")}
        reasons = {
            "form", "unknown", "withdrawn", "replaced", "right", "key", "known", "rights", "target", "gone",
            "signature",
        }
        self.assertGreaterEqual(found, accepted | reasons)

    def test_long_line(self):
        desk = opened()
        before = ANN
        for actor in NEW:
            self.assertEqual(desk.offer(before.admit(desk, actor.key, "asw")), "")
            before = actor
        self.assertEqual(desk.line(NEW[-1].key), [actor.key for actor in NEW[::-1]] + [ANN.key])
        self.assertEqual(desk.path(NEW[-1].key), list(range(len(NEW))))
        # Each key may be withdrawn by each key of its line.
        for author, target in itertools.combinations((ANN,) + NEW, 2):
            self.assertEqual(desk.would(author.withdraw(desk, target.key)), "")
            self.assertEqual(desk.would(target.withdraw(desk, author.key)), "target")
        self.assertEqual(desk.offer(NEW[2].withdraw(desk, NEW[6].key)), "")
        for at, actor in enumerate(NEW):
            self.assertEqual(desk.status(actor.key), "withdrawn" if at >= 6 else "in force")


if __name__ == "__main__":
    unittest.main()
