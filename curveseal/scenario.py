"""Scenarios: texts with commands, by which players offer entries to a desk."""

from curveseal.desk import UNKNOWN, Desk, is_name
from curveseal.entries import ADMIT, RIGHTS, STATE, WITHDRAW, make_entry, make_replacement
from curveseal.errors import BadLine, CurveError, Malformed, OutOfRange, Refused
from curveseal.keys import key_text
from curveseal.octets import ascii_codes
from curveseal.schemes import scheme_named

LONGEST_PLAYER = 12
MOST_DIGITS = 18
DECIMALS = "0123456789"
NO_RIGHTS = "-"

# All other commands stand behind the desk.
FREE_COMMANDS = ("player", "desk")


class Player:
    """A player with its secret."""

    def __init__(self, name, scheme, secret):
        self.name = name
        self.scheme = scheme
        self.secret = secret
        self.text = key_text(scheme, scheme.public(secret))


class Game:
    """What a scenario has brought about so far."""

    def __init__(self):
        self.desk = None
        self._players = {}
        # The pairs of the author's name and the entry that were made.
        self._made = []
        self._lines = []

    def enter(self, player):
        """Add a player."""
        if player.name in self._players:
            raise Malformed("there is a player of this name")
        self._players[player.name] = player

    def player(self, name):
        """Return the player of a name."""
        if name not in self._players:
            raise Malformed("there is no player of this name")
        return self._players[name]

    def made(self, index):
        """Return the pair of an entry that was made."""
        if index >= len(self._made):
            raise Malformed("there is no entry with this index")
        return self._made[index]

    def bring(self, name, entry):
        """Keep a new entry, and offer it."""
        self._made.append((name, entry))
        self.offer(name, entry)

    def offer(self, name, entry):
        """Offer an entry of a player to the desk."""
        reason = self.desk.offer(entry)
        answer = "accepted" if reason == "" else reason
        self._lines.append(f"{entry[0]} {name} {answer}")

    def report(self):
        """Return the report."""
        ends = [f"{player.name} {self._status(player)}" for player in self._players.values()]
        return "\n".join(self._lines + ends)

    def _status(self, player):
        return UNKNOWN if self.desk is None else self.desk.status(player.text)


def _check_count(words, count):
    if len(words) != count:
        raise Malformed("the command has another number of words")


def _number(word):
    """Return the number of a word of decimal digits."""
    if len(word) > MOST_DIGITS or not all([character in DECIMALS for character in word]):
        raise Malformed("the word is no number of 1 to 18 digits")
    if len(word) > 1 and word[0] == "0":
        raise Malformed("the number has leading zeros")
    return int(word)


def _player(game, words):
    _check_count(words, 3)
    name, scheme_name, secret = words
    if not is_name(name, LONGEST_PLAYER):
        raise Malformed("the name does not consist of 1 to 12 small letters")
    game.enter(Player(name, scheme_named(scheme_name), _number(secret)))


def _desk(game, words):
    if game.desk is not None or len(words) == 0:
        raise Malformed("there is a desk already, or no name")
    game.desk = Desk(words[0], [game.player(name).text for name in words[1:]])


def _bring_signed(game, name, kind, body):
    """Let a player sign an entry, and offer it."""
    player = game.player(name)
    try:
        entry = make_entry(game.desk.head(), player.scheme, player.secret, kind, body)
    except (OutOfRange, Refused):
        return
    game.bring(name, entry)


def _state(game, words):
    if len(words) < 2:
        raise Malformed("there is no text")
    data = ascii_codes(" ".join(words[1:]))
    _bring_signed(game, words[0], STATE, (tuple(data),))


def _admit(game, words):
    _check_count(words, 3)
    name, other, letters = words
    granted = "" if letters == NO_RIGHTS else letters
    if granted not in RIGHTS:
        raise Malformed("the last word does not say rights")
    _bring_signed(game, name, ADMIT, (game.player(other).text, granted))


def _replace(game, words):
    _check_count(words, 2)
    player, other = game.player(words[0]), game.player(words[1])
    try:
        entry = make_replacement(game.desk.head(), player.scheme, player.secret, other.scheme, other.secret)
    except (OutOfRange, Refused):
        return
    game.bring(player.name, entry)


def _withdraw(game, words):
    _check_count(words, 2)
    _bring_signed(game, words[0], WITHDRAW, (game.player(words[1]).text,))


def _again(game, words):
    _check_count(words, 1)
    name, entry = game.made(_number(words[0]))
    game.offer(name, entry)


def _spoil(game, words):
    _check_count(words, 3)
    index, place, value = [_number(word) for word in words]
    name, entry = game.made(index)
    kind, author, body, signature = entry
    if place >= len(signature) or value > 255:
        raise Malformed("there is no such place in the signature, or no such byte")
    game.bring(name, (kind, author, body, signature[:place] + (value,) + signature[place + 1:]))


def _hand(game, words):
    _check_count(words, 2)
    _, entry = game.made(_number(words[0]))
    player = game.player(words[1])
    game.bring(player.name, (entry[0], player.text, entry[2], entry[3]))


COMMANDS = {
    "player": _player,
    "desk": _desk,
    "state": _state,
    "admit": _admit,
    "replace": _replace,
    "withdraw": _withdraw,
    "again": _again,
    "spoil": _spoil,
    "hand": _hand,
}


def _run(game, line):
    """Carry out the command of a line."""
    words = line.split(" ")
    if "" in words or words[0] not in COMMANDS:
        raise Malformed("the line does not consist of a command and single spaces")
    if game.desk is None and words[0] not in FREE_COMMANDS:
        raise Malformed("the command stands before the desk")
    action = COMMANDS[words[0]]
    action(game, words[1:])


def play(text):
    """Return the desk of a scenario, or None, and the report."""
    game = Game()
    for number, line in enumerate(text.split("\n"), start=1):
        if line != "" and not line.startswith("#"):
            try:
                _run(game, line)
            except CurveError:
                raise BadLine(number) from None
    return game.desk, game.report()
