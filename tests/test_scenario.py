"""Points 174 and 175: curveseal.scenario."""

import unittest
from unittest import mock

from curveseal.desk import Desk
from curveseal.entries import make_entry, make_replacement
from curveseal.errors import BadLine, CurveError, Refused
from curveseal.keys import key_text
from curveseal.scenario import play
from curveseal.schemes import scheme_named, scheme_names

PLAYERS = """player ann schnorr-w31 5
player bob ecdsa-w31 6
player cid eddsa-e31 7
player dan ecdsa-secp256k1 8
"""
SECRETS = {"ann": ("schnorr-w31", 5), "bob": ("ecdsa-w31", 6), "cid": ("eddsa-e31", 7), "dan": ("ecdsa-secp256k1", 8)}
START = PLAYERS + "desk main ann bob\n"
# The number of the line behind the start.
NEXT = 6


def key_of(name):
    scheme_name, secret = SECRETS[name]
    scheme = scheme_named(scheme_name)
    return key_text(scheme, scheme.public(secret))


def signed(desk, name, kind, body):
    scheme_name, secret = SECRETS[name]
    return make_entry(desk.head(), scheme_named(scheme_name), secret, kind, body)


def report_of(text):
    return play(text)[1]


def lines_behind(text):
    """Return the lines of the report of commands behind the start, without those of the players."""
    return report_of(START + text).split("\n")[:-4]


class PlayTest(unittest.TestCase):
    def test_texts_without_a_desk(self):
        for text in ("", "\n", "\n\n\n", "# only this", "#\n#player", "#" + "\xe4\u20ac%\t" + "\n"):
            self.assertEqual(play(text), (None, ""))
        self.assertIs(type(play("")), tuple)
        self.assertEqual(play(PLAYERS), (None, "ann unknown\nbob unknown\ncid unknown\ndan unknown"))
        self.assertEqual(play("player a schnorr-w11 1"), (None, "a unknown"))

    def test_desk(self):
        desk, report = play(START)
        self.assertIs(type(desk), Desk)
        self.assertEqual((desk.known(), desk.log()), ([key_of("ann"), key_of("bob")], []))
        self.assertEqual(desk.head(), Desk("main", [key_of("ann"), key_of("bob")]).head())
        self.assertEqual(report, "ann in force\nbob in force\ncid unknown\ndan unknown")
        # The order of the words is the order of the roots.
        other, _ = play(PLAYERS + "desk other bob ann")
        self.assertEqual(other.head(), Desk("other", [key_of("bob"), key_of("ann")]).head())

    def test_comments_and_empty_lines(self):
        text = "# first\n\n" + START.replace("\n", "\n#\n\n# player ann\n") + "\n#state ann x\nstate ann x\n\n"
        desk, report = play(text)
        self.assertEqual(report, "state ann accepted\nann in force\nbob in force\ncid unknown\ndan unknown")
        self.assertEqual(play(START + "state ann x")[1], report)
        self.assertEqual(desk.head(), play(START + "state ann x\n")[0].head())

    def test_every_command(self):
        text = START + (
            "state ann Hello, world!\n"
            "admit ann cid as\n"
            "state cid #x\n"
            "admit cid dan -\n"
            "state dan y\n"
            "replace dan bob\n"
            "withdraw cid ann\n"
            "withdraw ann cid\n"
            "state cid z\n"
            "withdraw dan dan\n"
            "again 0\n"
            "spoil 0 0 1\n"
            "hand 0 bob\n"
            "hand 0 cid\n"
            "replace bob ann\n"
            "withdraw bob bob\n"
        )
        self.assertEqual(report_of(text).split("\n"), [
            "state ann accepted", "admit ann accepted", "state cid accepted", "admit cid accepted", "state dan right",
            "replace dan known", "withdraw cid right", "withdraw ann accepted", "state cid withdrawn",
            "withdraw dan withdrawn", "state ann signature", "state ann signature", "state bob signature",
            "state cid withdrawn", "replace bob known", "withdraw bob accepted",
            "ann in force", "bob withdrawn", "cid withdrawn", "dan withdrawn",
        ])

    def test_entries_of_the_desk(self):
        desk, report = play(START + (
            "state bob a bc\nadmit ann cid asw\nreplace cid dan\nwithdraw ann cid\nstate ann d\nwithdraw bob bob\n"
        ))
        other = Desk("main", [key_of("ann"), key_of("bob")])
        for name, kind, body in (
            ("bob", "state", (tuple(b"a bc"),)), ("ann", "admit", (key_of("cid"), "asw")), ("cid", "replace", None),
            ("ann", "withdraw", (key_of("cid"),)), ("ann", "state", (tuple(b"d"),)),
            ("bob", "withdraw", (key_of("bob"),)),
        ):
            if body is None:
                old, new = SECRETS["cid"], SECRETS["dan"]
                entry = make_replacement(
                    other.head(), scheme_named(old[0]), old[1], scheme_named(new[0]), new[1]
                )
            else:
                entry = signed(other, name, kind, body)
            self.assertEqual(other.offer(entry), "")
        self.assertEqual((desk.log(), desk.head()), (other.log(), other.head()))
        self.assertEqual(report.split("\n")[6:], ["ann in force", "bob withdrawn", "cid withdrawn", "dan withdrawn"])

    def test_all_statuses(self):
        desk, report = play(START + "admit ann cid s\nreplace bob dan\nwithdraw ann cid\nplayer eve ecdsa-w31 99\n")
        ends = ["ann in force", "bob replaced", "cid withdrawn", "dan in force", "eve unknown"]
        self.assertEqual(report.split("\n")[3:], ends)
        self.assertEqual(desk.path(key_of("dan")), [1])

    def test_every_reason(self):
        found = lines_behind(
            "state ann " + "x" * 1025 + "\nstate cid x\nadmit ann cid a\nstate cid x\nadmit cid dan s\n"
            "admit ann bob s\nwithdraw ann bob\nwithdraw ann cid\nwithdraw ann cid\nstate cid x\nreplace bob dan\n"
            "state bob x\nspoil 2 0 1\nspoil 10 0 1\nhand 10 ann\nspoil 4 0 0\nstate ann y\nspoil 16 3 0\n"
        )
        self.assertEqual(found, [
            "state ann form", "state cid unknown", "admit ann accepted", "state cid right", "admit cid rights",
            "admit ann known", "withdraw ann target", "withdraw ann accepted", "withdraw ann gone",
            "state cid withdrawn", "replace bob accepted", "state bob replaced", "admit ann known",
            "replace bob replaced", "replace ann known", "admit cid withdrawn", "state ann accepted",
            "state ann signature",
        ])
    def test_consent_does_not_fit_another_author(self):
        found = lines_behind("replace cid dan\nhand 0 ann\nreplace ann dan\nagain 0\n")
        self.assertEqual(
            found, ["replace cid unknown", "replace ann consent", "replace ann accepted", "replace cid unknown"]
        )

    def test_players_behind_the_desk(self):
        text = "player ann schnorr-w31 5\ndesk a ann\nplayer bob ecdsa-w31 6\nadmit ann bob s\nplayer cid eddsa-e31 7\n"
        self.assertEqual(report_of(text), "admit ann accepted\nann in force\nbob in force\ncid unknown")

    def test_players_with_one_key(self):
        text = (
            "player ann schnorr-w31 5\nplayer bob schnorr-w31 5\nplayer cid schnorr-w31 2147487632\ndesk a bob\n"
            "state ann x\nstate cid y\nagain 1\nhand 1 bob\nspoil 0 0 0\n"
        )
        # The report tells the player that made the entry, or that was made its author.
        self.assertEqual(report_of(text).split("\n"), [
            "state ann accepted", "state cid accepted", "state cid signature", "state bob signature",
            "state ann signature", "ann in force", "bob in force", "cid in force",
        ])

    def test_all_schemes(self):
        names = "abcdefghijklmnopqrstuvwxyzyz"
        schemes = [name for name in scheme_names() if "-w11" not in name and "-e13" not in name]
        text = "".join(f"player {names[at]} {name} 3\n" for at, name in enumerate(schemes[:25]))
        text += "desk a " + " ".join(names[:16]) + "\n" + "".join(f"state {name} x\n" for name in names[:16])
        text += "".join(f"admit a {name} s\nstate {name} y\n" for name in names[16:25])
        report = report_of(text).split("\n")
        self.assertEqual(report[:16], [f"state {name} accepted" for name in names[:16]])
        expected = [line for name in names[16:25] for line in ("admit a accepted", f"state {name} accepted")]
        self.assertEqual(report[16:34], expected)
        self.assertEqual(report[34:], [f"{name} in force" for name in names[:25]])


class IndexTest(unittest.TestCase):
    def test_again(self):
        found = lines_behind(
            "state ann x\nstate cid y\nagain 0\nagain 1\nadmit ann cid s\nagain 1\nagain 2\nstate cid z\n"
        )
        self.assertEqual(found, [
            "state ann accepted", "state cid unknown", "state ann signature", "state cid unknown",
            "admit ann accepted", "state cid signature", "admit ann known", "state cid accepted",
        ])

    def test_refused_entry_offered_again(self):
        # Behind another accepted entry it no longer fits the head.
        found = lines_behind("withdraw bob cid\nagain 0\nstate cid x\nadmit ann cid s\nagain 1\n")
        self.assertEqual(found, [
            "withdraw bob target", "withdraw bob target", "state cid unknown", "admit ann accepted",
            "state cid signature",
        ])

    def test_again_makes_no_entry(self):
        text = START + "state ann x\nagain 0\nagain 0\n"
        play(text + "again 0")
        for command in ("again 1", "spoil 1 0 0", "hand 1 bob"):
            with self.assertRaises(BadLine) as caught:
                play(text + command)
            self.assertEqual(caught.exception.line, NEXT + 3)

    def test_what_makes_an_entry(self):
        commands = (
            "state ann x", "admit ann cid s", "replace bob dan", "withdraw ann cid", "spoil 0 0 0", "hand 0 bob",
            "state cid refused",
        )
        text = START
        for count, command in enumerate(commands):
            for index in (count, count + 1, 999):
                with self.assertRaises(BadLine):
                    play(text + f"again {index}")
            text += command + "\n"
            for index in range(count + 1):
                play(text + f"again {index}")

    def test_spoil(self):
        desk, _ = play(START)
        signature = signed(desk, "ann", "state", (tuple(b"x"),))[3]
        for place in (0, 1, len(signature) - 1):
            for value in (0, 1, 255, signature[place]):
                made = play(START + f"state cid x\nspoil 0 {place} {value}\nstate ann x\n")[0]
                self.assertEqual(made.log()[0][3], signature)
        kept = signature[2]
        wrong = (kept + 1) % 256
        with mock.patch.object(Desk, "offer", autospec=True, side_effect=lambda desk, entry: str(entry[3][2])):
            found = lines_behind(
                f"state ann x\nspoil 0 2 {wrong}\nspoil 1 2 {kept}\nspoil 1 1 0\nagain 1\nagain 0\n"
            )
        values = [kept, wrong, kept, wrong, wrong, kept]
        self.assertEqual(found, [f"state ann {value}" for value in values])

    def test_spoiled_entry_that_fits(self):
        desk, _ = play(START)
        signature = signed(desk, "ann", "state", (tuple(b"x"),))[3]
        # The first entry is accepted, and its copy with the same signature is not, behind it.
        found = lines_behind(f"state ann x\nspoil 0 0 {signature[0]}\n")
        self.assertEqual(found, ["state ann accepted", "state ann signature"])

    def test_hand(self):
        with mock.patch.object(Desk, "offer", autospec=True, return_value="") as offered:
            lines = lines_behind("state ann x\nhand 0 dan\nhand 1 bob\nhand 0 ann\nadmit ann cid s\nhand 4 cid\n")
        entries = [call.args[1] for call in offered.call_args_list]
        expected = ["ann", "dan", "bob", "ann", "ann", "cid"]
        self.assertEqual([entry[1] for entry in entries], [key_of(name) for name in expected])
        for entry in entries[1:4]:
            self.assertEqual((entry[0], entry[2], entry[3]), (entries[0][0], entries[0][2], entries[0][3]))
        self.assertEqual(entries[5][2:], entries[4][2:])
        self.assertEqual([line.split(" ")[1] for line in lines], expected)


class RefusedTest(unittest.TestCase):
    def test_scheme_that_refuses_to_sign(self):
        # With the named groups it hardly ever happens that no nonce gives a signature.
        with mock.patch("curveseal.schemes.sign", side_effect=Refused("no nonce")):
            text = START + "state ann x\nstate bob x\nadmit bob cid s\nwithdraw bob bob\n"
            text += "replace bob dan\nreplace ann dan\n"
            desk, report = play(text + "state ann y\nagain 1\n")
            for index in (2, 3, 6):
                with self.assertRaises(BadLine):
                    play(text + f"state ann y\nagain {index}\n")
        self.assertEqual(report.split("\n")[:3], ["state ann accepted", "state ann accepted", "state ann signature"])
        self.assertEqual(len(report.split("\n")), 7)
        self.assertEqual(len(desk.log()), 2)

    def test_bad_lines_come_before_the_signature(self):
        with mock.patch("curveseal.schemes.sign", side_effect=Refused("no nonce")):
            for command in ("state bob", "admit bob cid x", "admit bob zoe s", "replace bob zoe", "withdraw bob zoe"):
                with self.assertRaises(BadLine):
                    play(START + command)


class BadLineTest(unittest.TestCase):
    def check(self, text, line):
        with self.subTest(text=text[-60:]):
            with self.assertRaises(BadLine) as caught:
                play(text)
            self.assertEqual(caught.exception.line, line)
            self.assertIsInstance(caught.exception, CurveError)

    def check_next(self, command):
        """Check that a command is not valid behind the start and an entry."""
        text = START + "state ann x\n"
        self.check(text + command, NEXT + 1)
        self.check(text + command + "\n", NEXT + 1)
        # Empty lines and comments count, and the first bad line is told.
        self.check("\n#\n" + text + "\n" + command + "\nalso bad\nplayer", NEXT + 4)

    def test_other_commands(self):
        for command in (
            "x", "State ann x", "STATE ann x", "states ann x", "admits ann cid s", " ", "  ", "\t", "-", "player",
            "desk", "state", "admit", "replace", "withdraw", "again", "spoil", "hand", "offer 0", "\xe4", "%",
            " # no comment",
        ):
            self.check_next(command)
            self.check(command, 1)

    def test_spaces(self):
        for command in (
            "state ann x", "admit ann cid s", "replace ann cid", "withdraw ann cid", "again 0", "spoil 0 0 0",
            "hand 0 bob", "player eve ecdsa-w31 9",
        ):
            play(START + "state ann x\n" + command)
            for wrong in (" " + command, command + " ", command.replace(" ", "  ", 1), command.replace(" ", "\t", 1)):
                self.check_next(wrong)
            self.check_next(command + "\r")
            at = command.rindex(" ")
            self.check_next(command[:at] + " " + command[at:])
            self.check_next(command[:at] + "\t" + command[at + 1:])
        self.check(PLAYERS + "desk main  ann", 5)
        self.check(PLAYERS + "desk main ann ", 5)
        self.check(PLAYERS + "desk  main ann", 5)

    def test_numbers_of_words(self):
        for command in (
            "player eve", "player eve ecdsa-w31", "player eve ecdsa-w31 9 9", "state ann", "admit ann", "admit ann cid",
            "admit ann cid a s", "replace ann", "replace ann cid dan", "withdraw ann", "withdraw ann cid dan",
            "again 0 0", "spoil 0", "spoil 0 0", "spoil 0 0 0 0", "hand 0", "hand 0 ann bob", "hand ann",
        ):
            self.check_next(command)

    def test_players(self):
        for name in ("", "A", "Eve", "eve1", "e-e", "a" * 13, "a" * 14, "\xe4", "#eve", "e.e", "_"):
            self.check(f"player {name} ecdsa-w31 9", 1)
        for name in ("a", "z", "abcdefghijkl", "a" * 12):
            self.assertEqual(report_of(f"player {name} ecdsa-w31 9"), f"{name} unknown")
        for scheme in ("", "ecdsa", "ecdsa-e31", "eddsa-w31", "ECDSA-w31", "p256", "ecdsa-", "-w31", "ecdsa-p-256"):
            self.check(f"player eve {scheme} 9", 1)
        # A player twice, with the same or with another key.
        self.check(PLAYERS + "player ann schnorr-w31 5", 5)
        self.check(PLAYERS + "player ann schnorr-w31 6", 5)
        self.check_next("player bob schnorr-w31 6")

    def test_secrets(self):
        texts = ("", "-1", "+1", "01", "00", "1.0", "1e1", "0x1", "a", "x", "1_0", "\u0661", "1 0", "9" * 19, "1" * 19)
        for secret in texts:
            self.check(f"player eve ecdsa-p256 {secret}", 1)
            self.check(f"player eve eddsa-ed25519 {secret}", 1)
        for secret in ("1", "9" * 18, "10", "100000000000000000"):
            self.assertEqual(report_of(f"player eve ecdsa-p256 {secret}"), "eve unknown")
            self.assertEqual(report_of(f"player eve eddsa-ed25519 {secret}"), "eve unknown")
        for scheme, good, wrong in (
            ("ecdsa-w11", (1, 16), (0, 17, 18)), ("schnorr-w11", (1, 16), (0, 17)), ("eddsa-e13", (0, 255), (256, 257)),
            ("ecdsa-p256", (1,), (0,)), ("eddsa-ed25519", (0,), ()), ("eddsa-e241", (0, 65535), (65536,)),
        ):
            for secret in good:
                self.assertEqual(report_of(f"player eve {scheme} {secret}"), "eve unknown")
            for secret in wrong:
                self.check(f"player eve {scheme} {secret}", 1)
        weak = 0
        for secret in range(256):
            try:
                scheme_named("eddsa-e29").public(secret)
            except Refused:
                self.check(f"\nplayer eve eddsa-e29 {secret}", 2)
                weak += 1
        self.assertGreater(weak, 0)

    def test_desks(self):
        for command in (
            "desk", "desk main", "desk ann bob zoe", "desk main zoe", "desk main ann zoe", "desk Main ann",
            "desk m1 ann", "desk " + "a" * 33 + " ann", "desk main ann ann", "desk main ann bob ann",
            "desk - ann", "desk main ann,bob",
        ):
            self.check(PLAYERS + command, 5)
        for name in ("a", "a" * 32, "ann"):
            self.assertEqual(len(play(PLAYERS + f"desk {name} ann")[0].known()), 1)
        # Two players with one key are no two roots.
        for other in ("ann schnorr-w31 5", "eve schnorr-w31 5", "eve schnorr-w31 2147487632"):
            name = other.split(" ")[0]
            text = (PLAYERS if name == "eve" else "player bob ecdsa-w31 6\n") + f"player {other}\n"
            line = text.count("\n") + 1
            self.check(text + f"desk main bob ann {name}", line)
        names = "abcdefghijklmnopq"
        text = "".join(f"player {name} ecdsa-w31 {at + 1}\n" for at, name in enumerate(names))
        self.assertEqual(len(play(text + "desk main " + " ".join(names[:16]))[0].known()), 16)
        self.check(text + "desk main " + " ".join(names), 18)

    def test_places_of_lines(self):
        for command in (
            "state ann x", "admit ann cid s", "replace ann cid", "withdraw ann cid", "again 0", "spoil 0 0 0",
            "hand 0 ann",
        ):
            self.check(PLAYERS + command, 5)
            self.check(PLAYERS + command + "\ndesk main ann bob", 5)
        for command in ("desk main ann bob", "desk other cid", "desk main ann"):
            self.check(START + command, NEXT)
            self.check_next(command)
        self.check("desk main ann\n" + PLAYERS, 1)
        self.check("player ann ecdsa-w31 1\ndesk main ann bob\nplayer bob ecdsa-w31 2", 2)

    def test_names_that_are_not_there(self):
        for command in (
            "state zoe x", "admit zoe cid s", "admit ann zoe s", "replace zoe cid", "replace ann zoe",
            "withdraw zoe ann", "withdraw ann zoe", "hand 0 zoe", "state Ann x", "state main x",
            "admit ann ecdsa-w31 s",
        ):
            self.check_next(command)
        # A player that is made later is not there yet.
        self.check(START + "state eve x\nplayer eve ecdsa-w31 9", NEXT)

    def test_rights(self):
        for letters in ("-", "a", "s", "w", "as", "aw", "sw", "asw"):
            desk, _ = play(START + f"admit ann cid {letters}")
            self.assertEqual(desk.rights(key_of("cid")), letters.replace("-", ""))
        for letters in ("sa", "wa", "ws", "aa", "aas", "wsa", "x", "asx", "A", "ASW", "--", "-a", "a-", "a,s", "asw-"):
            self.check_next(f"admit ann cid {letters}")

    def test_stated_texts(self):
        for text in ("x", "# x", "a b c", "~ !", "- 0", "player", "x" * 1024):
            desk, _ = play(START + f"state ann {text}")
            self.assertEqual(bytes(desk.log()[0][2][0]), text.encode())
        for text in ("%", "100% x", "x\ty", "x \x7f", "\xe4", "x \u20ac", "x\x00", " x", "x ", "x  y", "x\r"):
            self.check_next(f"state ann {text}")

    def test_indexes_places_and_values(self):
        size = len(signed(play(START)[0], "ann", "state", (tuple(b"x"),))[3])
        for place, value in ((0, 0), (0, 255), (size - 1, 9)):
            play(START + f"state ann x\nspoil 0 {place} {value}")
        for command in (
            f"spoil 0 {size} 0", f"spoil 0 {size + 1} 0", "spoil 0 0 256", "spoil 0 0 999999999999999999",
            "spoil 1 0 0", "spoil 0 -1 0", "spoil -1 0 0", "spoil 0 0 -1", "spoil 00 0 0", "spoil 0 00 0",
            "spoil 0 0 00", "spoil 0 0 01", "spoil a 0 0", "spoil 0 a 0", "spoil 0 0 a", "spoil 0 0 +1",
            "again 1", "again -1", "again 00", "again 01",
            "again a", "again ann", "again 999999999999999999", "again " + "9" * 19, "hand 1 bob", "hand -1 bob",
            "hand 00 bob", "hand 0x0 bob", "hand bob 0", "again \u0660",
        ):
            self.check_next(command)

    def test_first_of_many_bad_lines(self):
        self.check("\n\n#\nbad\nbad", 4)
        self.check(START + "state ann x\n" * 20 + "again 20", NEXT + 20)
        self.check("\n" * 899 + "x", 900)


if __name__ == "__main__":
    unittest.main()
