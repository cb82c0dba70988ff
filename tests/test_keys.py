"""Points 155 to 157: curveseal.keys."""

import unittest

from curveseal.errors import Malformed, OutOfRange, Refused
from curveseal.keys import answer_challenge, is_answer, key_text, read_key, read_letter, write_letter
from curveseal.schemes import Scheme, scheme_named, scheme_names
from lists import check_lists
from model import is_refused
from signing import tagged_digest

BIG = ("ecdsa-p256", "schnorr-secp256k1", "eddsa-ed25519")
SOME = BIG + ("ecdsa-w11", "schnorr-w1021", "eddsa-e241")
CHARACTERS = "0af:g- \n\x00\xe9\u20ac"


def digits(data):
    return bytes(data).hex()


def expected_text(scheme, public):
    start = f"{scheme.name}:{digits(public)}"
    return f"{start}:{digits(tagged_digest('curveseal/key', list(start.encode()))[:4])}"


def changed_texts(text, characters):
    """Return the text with one character changed, left out or put in, at every place."""
    found = []
    for at in range(len(text) + 1):
        found += [text[:at] + character + text[at:] for character in characters]
        if at < len(text):
            found.append(text[:at] + text[at + 1:])
            found += [text[:at] + character + text[at + 1:] for character in characters]
    return [other for other in found if other != text]


class KeyTextTest(unittest.TestCase):
    def test_all_schemes(self):
        for name in scheme_names():
            scheme = scheme_named(name)
            for secret in (1, 2, 3):
                try:
                    public = scheme.public(secret)
                except Refused:
                    continue
                text = key_text(scheme, public)
                self.assertEqual(text, expected_text(scheme, public))
                self.assertIs(type(text), str)
                found, key = read_key(text)
                self.assertEqual((found.name, key), (name, public))
                self.assertIs(type(found), Scheme)
                self.assertIs(type(read_key(text)), tuple)
                self.assertLess(len(text), 600)

    def test_keys_that_are_not_proper(self):
        for name in SOME:
            scheme = scheme_named(name)
            public = scheme.public(3)
            for wrong in ([], [0], public[:-1], public + [0], [4] + public[1:] * 2, [255] * len(public)):
                with self.assertRaises(Malformed):
                    key_text(scheme, wrong)
        scheme = scheme_named("eddsa-ed25519")
        for weak in ([1] + [0] * 31, [0] * 32):
            with self.assertRaises(Malformed):
                key_text(scheme, weak)

    def test_lists(self):
        scheme = scheme_named("ecdsa-w11")
        check_lists(self, key_text, scheme, scheme.public(3))
        text = key_text(scheme, scheme.public(3))
        read_key(text)[1].append(0)
        self.assertEqual(read_key(text)[1], scheme.public(3))


class ReadKeyTest(unittest.TestCase):
    def test_one_character_changed(self):
        for name in SOME:
            scheme = scheme_named(name)
            text = key_text(scheme, scheme.public(3))
            self.assertEqual(read_key(text)[1], scheme.public(3))
            # Most of the changes of a small key are those of the digits behind it.
            for other in changed_texts(text, "09a:-G " if len(text) < 60 else "0:G"):
                with self.assertRaises(Malformed):
                    read_key(other)

    def test_other_characters(self):
        scheme = scheme_named("ecdsa-w251")
        text = key_text(scheme, scheme.public(9))
        for other in changed_texts(text, CHARACTERS):
            with self.assertRaises(Malformed):
                read_key(other)
        for other in ("ecdsa-w251", "ecdsa-w251:", "", ":", "::", ":::"):
            with self.assertRaises(Malformed):
                read_key(other)
        for other in (text.upper(), text + "\n", text + " ", " " + text, text + ":", text * 2):
            with self.assertRaises(Malformed):
                read_key(other)
        for length in (600, 601, 5000):
            for other in ("a" * length, ":" * length, (text + ":") * (length // len(text))):
                with self.assertRaises(Malformed):
                    read_key(other)

    def test_right_digits_behind_a_wrong_key(self):
        for name, public in (
            ("ecdsa-w11", [0]), ("ecdsa-w11", []), ("ecdsa-w11", [2, 99]), ("ecdsa-w11", [4, 0, 10]),
            ("schnorr-w11", [1]), ("schnorr-w11", [0, 0]), ("eddsa-e13", [1]), ("eddsa-e13", [12]),
            ("eddsa-w11", [2, 0]), ("ecdsa-e13", [2, 0]), ("other-w11", [2, 0]), ("", [2, 0]), ("ecdsa", [2, 0]),
            ("ECDSA-w11", [2, 0]),
        ):
            start = f"{name}:{digits(public)}"
            text = f"{start}:{digits(tagged_digest('curveseal/key', list(start.encode()))[:4])}"
            with self.subTest(text=text):
                if (name, public) == ("schnorr-w11", [1]):
                    continue
                with self.assertRaises(Malformed):
                    read_key(text)

    def test_digits_in_another_form(self):
        scheme = scheme_named("ecdsa-p256")
        text = key_text(scheme, scheme.public(3))
        start = text.rpartition(":")[0]
        name, key = start.split(":")
        for other in (f"{name}:{key.upper()}", f"{name}: {key}", f"{name}:{key}0", f"{name}:0x{key}", f"{name} :{key}"):
            check = digits(tagged_digest("curveseal/key", list(other.encode()))[:4])
            with self.assertRaises(Malformed):
                read_key(f"{other}:{check}")
        for check in (text[-8:].upper(), text[-8:-1], text[-8:] + "0", text[-8:-2], text[-8:] + "00", ""):
            if check != text[-8:]:
                with self.assertRaises(Malformed):
                    read_key(f"{start}:{check}")


class LetterTest(unittest.TestCase):
    def test_all_schemes(self):
        for name in scheme_names():
            scheme = scheme_named(name)
            for message in ([], [0], [1, 2, 255], [7] * 300):
                letter = write_letter(scheme, 3, message)
                text = key_text(scheme, scheme.public(3))
                lines = ["curveseal letter", text, digits(message), digits(scheme.sign(3, message))]
                self.assertEqual(letter, "\n".join(lines))
                found = read_letter(letter)
                self.assertEqual(found, (text, message))
                self.assertIs(type(found), tuple)

    def test_one_character_changed(self):
        for name in BIG:
            scheme = scheme_named(name)
            letter = write_letter(scheme, 3, [1, 2])
            counts = {Malformed: 0, Refused: 0}
            for other in changed_texts(letter, "1:\n"):
                with self.assertRaises((Malformed, Refused)) as caught:
                    read_letter(other)
                counts[type(caught.exception)] += 1
            self.assertTrue(counts[Malformed] > 0 and counts[Refused] > 0)

    def check(self, lines, error):
        with self.assertRaises(error):
            read_letter("\n".join(lines))

    def test_parts_that_are_wrong(self):
        for name in BIG:
            scheme = scheme_named(name)
            title, key, message, signature = write_letter(scheme, 3, [1, 2]).split("\n")
            other_key = key_text(scheme, scheme.public(4))
            for wrong in ("", "Curveseal letter", title + " ", " " + title, "curveseal  letter"):
                self.check([wrong, key, message, signature], Malformed)
            for wrong in ("", key + " ", key.upper(), key[:-1], key[:-1] + ("0" if key[-1] != "0" else "1")):
                self.check([title, wrong, message, signature], Malformed)
            for wrong in ("0", "010", "01G2", "0102 ", " 0102", "01 02", "0A0B"):
                self.check([title, key, wrong, signature], Malformed)
            for wrong in (signature[:-1], signature + "0", signature.upper(), signature + " ", " ", "g0"):
                self.check([title, key, message, wrong], Malformed)
            self.check([title, key, message, signature, ""], Malformed)
            self.check(["", title, key, message, signature], Malformed)
            self.check([title, key, message], Malformed)
            self.check([title, key, message + signature], Malformed)
            self.check([title, key, "", message, signature], Malformed)
            self.check([title, other_key, message, signature], Refused)
            for wrong in ("", "0103", "01", "010200"):
                self.check([title, key, wrong, signature], Refused)
            for wrong in ("", "00", signature[:-2], signature + "00", "00" + signature, signature[2:] + "00"):
                self.check([title, key, message, wrong], Refused)
        self.check([""], Malformed)
        self.check([], Malformed)

    def test_signatures_in_another_form(self):
        scheme = scheme_named("ecdsa-p256")
        title, key, message, signature = write_letter(scheme, 3, [1, 2]).split("\n")
        content = signature[4:]
        self.check([title, key, message, f"3081{len(content) // 2:02x}{content}"], Refused)
        order = scheme.group.order
        size = int(content[2:4], 16)
        s = int(content[8 + 2 * size:], 16)
        high = f"{order - s:066x}"
        self.check([title, key, message, f"30{size + 37:02x}{content[:4 + 2 * size]}0221{high}"], Refused)

    def test_long_messages(self):
        scheme = scheme_named("schnorr-w251")
        message = [5] * 65536
        letter = write_letter(scheme, 3, message)
        self.assertEqual(read_letter(letter), (key_text(scheme, scheme.public(3)), message))
        with self.assertRaises(OutOfRange):
            write_letter(scheme, 3, [5] * 65537)
        # What cannot be written is no letter.
        title, key, text, signature = letter.split("\n")
        self.check([title, key, text + "05", signature], Malformed)

    def test_errors_of_signing(self):
        for name in ("ecdsa-w11", "schnorr-p256"):
            scheme = scheme_named(name)
            for secret in (0, -1, scheme.group.order):
                with self.assertRaises(OutOfRange):
                    write_letter(scheme, secret, [1])
        scheme = scheme_named("eddsa-e29")
        refused = 0
        for secret in range(-1, 257):
            try:
                scheme.sign(secret, [1])
            except (OutOfRange, Refused) as error:
                with self.assertRaises(type(error)):
                    write_letter(scheme, secret, [1])
                refused += 1
        self.assertGreater(refused, 2)

    def test_lists(self):
        scheme = scheme_named("ecdsa-w251")
        check_lists(self, write_letter, scheme, 3, [1, 2])
        letter = write_letter(scheme, 3, [1, 2])
        read_letter(letter)[1].append(0)
        self.assertEqual(read_letter(letter)[1], [1, 2])


class ChallengeTest(unittest.TestCase):
    def test_all_schemes(self):
        for name in scheme_names():
            scheme = scheme_named(name)
            public = scheme.public(3)
            for challenge in ([], [0], [1, 2, 3], [9] * 1024):
                signature = answer_challenge(scheme, 3, challenge)
                signed = list(b"curveseal answer\0") + challenge
                self.assertEqual(signature, scheme.sign(3, signed))
                self.assertIs(is_answer(scheme, public, challenge, signature), True)
                self.assertIs(scheme.accepts(public, signed, signature), True)

    def test_other_answers(self):
        for name in BIG:
            scheme = scheme_named(name)
            public, signature = scheme.public(3), answer_challenge(scheme, 3, [1, 2])
            for challenge in ([], [1], [1, 3], [0, 1, 2], [1, 2, 0]):
                self.assertIs(is_answer(scheme, public, challenge, signature), False)
            for wrong in ([], [0], signature[:-1], signature + [0], scheme.sign(3, [1, 2])):
                self.assertIs(is_answer(scheme, public, [1, 2], wrong), False)
            for wrong in ([], [0], public[:-1], public + [0], scheme.public(4)):
                self.assertIs(is_answer(scheme, wrong, [1, 2], signature), False)

    def test_challenges_that_are_too_long(self):
        for name in ("ecdsa-w11", "schnorr-p256", "eddsa-e29"):
            scheme = scheme_named(name)
            for length in (1025, 1026, 5000):
                # The errors of the secret and the key come later.
                for secret in (3, 0, -1, None):
                    with self.assertRaises(OutOfRange):
                        answer_challenge(scheme, secret, [0] * length)
                for public in (scheme.public(3), [], None):
                    with self.assertRaises(OutOfRange):
                        is_answer(scheme, public, [0] * length, [])

    def test_errors_of_signing(self):
        scheme = scheme_named("ecdsa-w11")
        for secret in (0, 17, -1):
            with self.assertRaises(OutOfRange):
                answer_challenge(scheme, secret, [1])
        scheme = scheme_named("eddsa-e29")
        weak = next(secret for secret in range(256) if is_refused(scheme, secret))
        with self.assertRaises(Refused):
            answer_challenge(scheme, weak, [1])

    def test_lists(self):
        scheme = scheme_named("ecdsa-w251")
        check_lists(self, answer_challenge, scheme, 3, [1, 2])
        check_lists(self, is_answer, scheme, scheme.public(3), [1, 2], answer_challenge(scheme, 3, [1, 2]))


if __name__ == "__main__":
    unittest.main()
