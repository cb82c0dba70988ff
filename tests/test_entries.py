"""Points 166 and 167: curveseal.entries."""

import hashlib
import itertools
import unittest

from curveseal.desk import Desk
from curveseal.entries import (
    consent_bytes, first_head, is_entry, make_entry, make_replacement, next_head, pack, signed_bytes,
)
from curveseal.errors import OutOfRange, Refused
from curveseal.keys import key_text
from curveseal.schemes import scheme_named
from lists import check_lists
from model import is_refused, packed
from values import ODD_VALUES

HEAD = list(range(32))
KEY = "ecdsa-w11:0200:00000000"
STATE = ("state", KEY, ((1, 2),), (3, 4))
ADMIT = ("admit", KEY, ("b", "as"), (3, 4))
REPLACE = ("replace", KEY, ("b", (5, 6)), (3, 4))
WITHDRAW = ("withdraw", KEY, ("b",), (3, 4))
ENTRIES = (STATE, ADMIT, REPLACE, WITHDRAW)
# Values that are no tuple of bytes, wherever they stand.
NO_BYTES = (None, [], [1], "", b"", b"ab", (256,), (-1,), (1, 256), (True,), (1.0,), ("a",), (None,), ((1,),), 5)
NO_TEXTS = (
    None, 5, b"a", ("a",), ["a"], "a\n", "\t", "\x1f", "\x7f", "100%", "%", "\xe4", "\u20ac", "a" * 601, "\x00",
)


def sha256(data):
    return list(hashlib.sha256(bytes(data)).digest())


class IsEntryTest(unittest.TestCase):
    def check(self, value, expected):
        with self.subTest(value=value):
            self.assertIs(is_entry(value), expected)

    def test_entries_of_each_kind(self):
        for entry in ENTRIES:
            self.check(entry, True)
            # The author and the keys are texts, whether they are keys or not.
            self.check((entry[0], "", entry[2], ()), True)
        self.check(("state", "a", ((),), ()), True)
        self.check(("replace", "a", ("", ()), ()), True)

    def test_values_of_any_kind(self):
        for value in ODD_VALUES:
            self.check(value, False)
            for entry in ENTRIES:
                for place in range(4):
                    answers = (False, isinstance(value, str), is_body(entry[0], value), is_bytes_tuple(value))
                    self.check(entry[:place] + (value,) + entry[place + 1:], answers[place])
                for place in range(len(entry[2])):
                    body = entry[2][:place] + (value,) + entry[2][place + 1:]
                    expected = is_part(entry[0], place, value)
                    self.check((entry[0], entry[1], body, entry[3]), expected)

    def test_other_shapes(self):
        for entry in ENTRIES:
            for wrong in (list(entry), entry[:3], entry + ((),), entry[1:], entry + entry, (entry,), entry[::-1]):
                self.check(wrong, False)
            kind, author, body, signature = entry
            for wrong in (body + ((),), body + ("b",), body[1:] + ((),) * 2, list(body), (body,), ()):
                self.check((kind, author, wrong, signature), False)

    def test_bodies_of_other_kinds(self):
        for first, second in itertools.permutations(ENTRIES, 2):
            self.check((first[0], first[1], second[2], first[3]), False)
        for kind in ("", "State", "state ", "states", "admits", "sign", "stat", b"state", None, 0, ("state",)):
            for entry in ENTRIES:
                self.check((kind, entry[1], entry[2], entry[3]), False)

    def test_bounds_of_byte_tuples(self):
        for length, kinds in ((255, "yyy"), (256, "yyy"), (257, "ynn"), (1023, "ynn"), (1024, "ynn"), (1025, "nnn")):
            long = (7,) * length
            self.check(("state", "a", (long,), ()), kinds[0] == "y")
            self.check(("state", "a", ((),), long), kinds[1] == "y")
            self.check(("replace", "a", ("b", long), ()), kinds[2] == "y")
        for wrong in NO_BYTES:
            self.check(("state", "a", (wrong,), ()), False)
            self.check(("replace", "a", ("b", wrong), ()), False)
            for entry in ENTRIES:
                self.check(entry[:3] + (wrong,), False)
        for byte in (0, 255):
            self.check(("state", "a", ((byte,),), (byte,)), True)

    def test_bounds_of_texts(self):
        every = "".join(chr(code) for code in range(32, 127) if code != 37)
        for text in ("", " ", "~", "a" * 599, "a" * 600, "#:-&'(", every):
            self.check(("state", text, ((),), ()), True)
            self.check(("admit", "a", (text, "s"), ()), True)
            self.check(("replace", "a", (text, ()), ()), True)
            self.check(("withdraw", "a", (text,), ()), True)
        for text in NO_TEXTS:
            self.check(("state", text, ((),), ()), False)
            self.check(("admit", "a", (text, "s"), ()), False)
            self.check(("replace", "a", (text, ()), ()), False)
            self.check(("withdraw", "a", (text,), ()), False)
            for entry in ENTRIES:
                self.check((entry[0], text, entry[2], entry[3]), False)

    def test_rights(self):
        good = {"", "a", "s", "w", "as", "aw", "sw", "asw"}
        for length in range(5):
            for letters in itertools.product("aswx", repeat=length):
                text = "".join(letters)
                self.check(("admit", "a", ("b", text), ()), text in good)
        for wrong in ("A", " ", "as ", "-", "a s", None, ("a",), ["a", "s"], b"as", 5):
            self.check(("admit", "a", ("b", wrong), ()), False)


def is_bytes_tuple(value):
    return isinstance(value, tuple) and all(type(item) is int and 0 <= item <= 255 for item in value)


def is_body(kind, value):
    """Tell whether one of the odd values may stand in the place of the body."""
    if not isinstance(value, tuple) or len(value) != {"state": 1, "withdraw": 1}.get(kind, 2):
        return False
    return all(is_part(kind, place, part) for place, part in enumerate(value))


def is_part(kind, place, value):
    """Tell whether one of the odd values may stand at a place of the body."""
    if kind == "state" or (kind, place) == ("replace", 1):
        return is_bytes_tuple(value)
    if place == 0:
        return isinstance(value, str)
    return value in ("", "a", "s", "w", "as", "aw", "sw", "asw")


class BytesTest(unittest.TestCase):
    def test_pack(self):
        for parts in ([], [[]], [[], []], [[1]], [[1, 2], [], [3]], [[9] * 255, [8] * 256, [7] * 65535], [[6] * 70000]):
            self.assertEqual(pack(parts), packed(*parts))
        self.assertEqual(pack([[1, 2], [3]]), [0, 0, 2, 1, 2, 0, 0, 1, 3])
        self.assertEqual(pack([[5] * 258])[:3], [0, 1, 2])
        check_lists(self, pack, [[1, 2], [3]])
        check_lists(self, pack, [])

    def test_first_head(self):
        for name, roots in (("main", ["a", "b"]), ("x", [KEY]), ("a" * 32, [str(at) for at in range(16)])):
            self.assertEqual(first_head(name, roots), sha256(packed("curveseal desk", name, *roots)))
        heads = [
            first_head("a", ["b", "c"]), first_head("a", ["c", "b"]), first_head("a", ["bc"]),
            first_head("ab", ["c"]), first_head("b", ["a", "c"]), first_head("a", ["b"]),
            first_head("a", ["b", "c", "d"]),
        ]
        self.assertEqual(len({tuple(head) for head in heads}), len(heads))
        check_lists(self, first_head, "main", ["a", "b"])

    def test_signed_bytes(self):
        expected = {
            "state": packed("curveseal entry", HEAD, "state", KEY, [1, 2]),
            "admit": packed("curveseal entry", HEAD, "admit", KEY, "b", "as"),
            "replace": packed("curveseal entry", HEAD, "replace", KEY, "b"),
            "withdraw": packed("curveseal entry", HEAD, "withdraw", KEY, "b"),
        }
        for entry in ENTRIES:
            self.assertEqual(signed_bytes(HEAD, entry), expected[entry[0]])
            # Neither the signature nor the consent is signed.
            self.assertEqual(signed_bytes(HEAD, entry[:3] + ((),)), expected[entry[0]])
            check_lists(self, signed_bytes, HEAD, entry)
        self.assertEqual(signed_bytes(HEAD, ("replace", KEY, ("b", ()), ())), expected["replace"])
        self.assertEqual(
            signed_bytes([], ("admit", "", ("", ""), ())), packed("curveseal entry", [], "admit", "", "", "")
        )

    def test_consent_bytes(self):
        self.assertEqual(consent_bytes(HEAD, KEY, "b"), packed("curveseal consent", HEAD, KEY, "b"))
        self.assertNotEqual(consent_bytes(HEAD, KEY, "b"), consent_bytes(HEAD, "b", KEY))
        check_lists(self, consent_bytes, HEAD, KEY, "b")

    def test_next_head(self):
        for entry in ENTRIES:
            consent = entry[2][1] if entry[0] == "replace" else []
            data = packed("curveseal head", signed_bytes(HEAD, entry), consent, entry[3])
            self.assertEqual(next_head(HEAD, entry), sha256(data))
            check_lists(self, next_head, HEAD, entry)
        heads = [tuple(next_head(HEAD, entry)) for entry in ENTRIES]
        heads += [tuple(next_head(HEAD, entry[:3] + ((3,),))) for entry in ENTRIES]
        heads += [tuple(next_head(HEAD[:31], entry)) for entry in ENTRIES]
        heads.append(tuple(next_head(HEAD, ("replace", KEY, ("b", (5,)), (3, 4)))))
        self.assertEqual(len(set(heads)), len(heads))


class MakeEntryTest(unittest.TestCase):
    def test_each_kind_and_scheme(self):
        bodies = {"state": ((1, 2),), "admit": ("b", "as"), "replace": ("b", (5, 6)), "withdraw": ("b",)}
        for name in ("ecdsa-p256", "schnorr-w251", "eddsa-ed25519", "eddsa-e61"):
            scheme = scheme_named(name)
            author = key_text(scheme, scheme.public(3))
            for kind, body in bodies.items():
                entry = make_entry(HEAD, scheme, 3, kind, body)
                signature = scheme.sign(3, signed_bytes(HEAD, (kind, author, body, ())))
                self.assertEqual(entry, (kind, author, body, tuple(signature)))
                self.assertIs(is_entry(entry), True)
                check_lists(self, make_entry, HEAD, scheme, 3, kind, body)

    def test_replacements(self):
        for first, second in (("ecdsa-p256", "eddsa-e61"), ("eddsa-e241", "schnorr-w251"), ("ecdsa-w31", "ecdsa-w31")):
            old, new = scheme_named(first), scheme_named(second)
            author, key = key_text(old, old.public(3)), key_text(new, new.public(4))
            consent = new.sign(4, packed("curveseal consent", HEAD, author, key))
            signature = old.sign(3, packed("curveseal entry", HEAD, "replace", author, key))
            entry = make_replacement(HEAD, old, 3, new, 4)
            self.assertEqual(entry, ("replace", author, (key, tuple(consent)), tuple(signature)))
            self.assertIs(is_entry(entry), True)
            check_lists(self, make_replacement, HEAD, old, 3, new, 4)

    def test_accepted_entries(self):
        scheme = scheme_named("schnorr-secp256k1")
        desk = Desk("main", [key_text(scheme, scheme.public(3))])
        self.assertEqual(desk.offer(make_entry(desk.head(), scheme, 3, "state", ((9,),))), "")
        self.assertEqual(desk.offer(make_replacement(desk.head(), scheme, 3, scheme, 4)), "")

    def test_errors_of_the_schemes(self):
        for name in ("ecdsa-w251", "schnorr-p256"):
            scheme = scheme_named(name)
            for secret in (0, -1, scheme.group.order):
                with self.assertRaises(OutOfRange):
                    make_entry(HEAD, scheme, secret, "state", ((1,),))
                with self.assertRaises(OutOfRange):
                    make_replacement(HEAD, scheme, secret, scheme, 1)
                with self.assertRaises(OutOfRange):
                    make_replacement(HEAD, scheme, 1, scheme, secret)
        scheme = scheme_named("eddsa-e29")
        weak = [secret for secret in range(256) if is_refused(scheme, secret)]
        self.assertGreater(len(weak), 5)
        good = next(secret for secret in range(256) if secret not in weak)
        for secret in weak[:5]:
            with self.assertRaises(Refused):
                make_entry(HEAD, scheme, secret, "state", ((1,),))
            with self.assertRaises(Refused):
                make_replacement(HEAD, scheme, secret, scheme, good)
            with self.assertRaises(Refused):
                make_replacement(HEAD, scheme, good, scheme, secret)


if __name__ == "__main__":
    unittest.main()
