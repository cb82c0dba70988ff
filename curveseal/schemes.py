"""Schemes: ways of signing over named groups, which have one face."""

from curveseal.ecdsa import accepts, public_key, sign
from curveseal.eddsa import eddsa_accepts, eddsa_key, eddsa_sign, is_weak_key
from curveseal.encoding import edwards_size
from curveseal.errors import Malformed, OutOfRange, Refused
from curveseal.hashes import Sha256
from curveseal.named import GROUP_NAMES, group_kind, group_named
from curveseal.octets import to_little
from curveseal.points import read_compressed, read_edwards, read_x, write_point
from curveseal.schnorr import schnorr_accepts, schnorr_key, schnorr_sign
from curveseal.signatures import read_tagged, write_tagged

SCHEME_KINDS = ("ecdsa", "schnorr", "eddsa")

# The kind of group that each of them needs.
NEEDED_KINDS = {"ecdsa": "weierstrass", "schnorr": "weierstrass", "eddsa": "edwards"}

LONGEST_MESSAGE = 65536


def scheme_names():
    """Return the names of all schemes."""
    return [
        f"{kind}-{name}" for kind in SCHEME_KINDS for name in GROUP_NAMES if group_kind(name) == NEEDED_KINDS[kind]
    ]


def scheme_named(name):
    """Return the scheme of a name, as a new object."""
    return Scheme(name)


class Scheme:
    """A way of signing over a named group."""

    def __init__(self, name):
        if name not in scheme_names():
            raise Malformed("there is no scheme of this name")
        kind, _, group_name = name.partition("-")
        self.name = name
        self.kind = kind
        self.group = group_named(group_name)
        self._hasher = Sha256()

    def public(self, secret):
        """Return the public key of a secret."""
        if self.kind == "ecdsa":
            return write_point(self.group, public_key(self.group, secret))
        if self.kind == "schnorr":
            return schnorr_key(self.group, secret)
        key = eddsa_key(self.group, self._seed(secret))
        if is_weak_key(self.group, key):
            raise Refused("the key of the secret is weak")
        return key

    def _seed(self, secret):
        return to_little(secret, edwards_size(self.group))

    def sign(self, secret, message):
        """Return the signature of a message."""
        # What is wrong with the secret is told before what is wrong with the message.
        self.public(secret)
        if len(message) > LONGEST_MESSAGE:
            raise OutOfRange("the message has more than 65536 bytes")
        if self.kind == "ecdsa":
            r, s = sign(self.group, secret, self._hasher.digest(message), self._hasher)
            return write_tagged(self.group, r, s)
        if self.kind == "schnorr":
            return schnorr_sign(self.group, secret, message)
        return eddsa_sign(self.group, self._seed(secret), message)

    def accepts(self, public, message, signature):
        """Tell whether a signature of a message is accepted under a public key."""
        if not self.is_proper(public):
            return False
        if self.kind == "ecdsa":
            return self._accepts_numbers(public, message, signature)
        if self.kind == "schnorr":
            return schnorr_accepts(self.group, public, message, signature)
        return eddsa_accepts(self.group, public, message, signature, cofactored=False)

    def _accepts_numbers(self, public, message, signature):
        try:
            numbers = read_tagged(self.group, signature)
        except Malformed:
            return False
        point = read_compressed(self.group, public)
        return accepts(self.group, point, self._hasher.digest(message), numbers, low=True)

    def is_proper(self, public):
        """Tell whether a byte list is the form of a public key that the scheme takes."""
        try:
            return self._takes(public)
        except Malformed:
            return False

    def _takes(self, public):
        """Tell the same for a form of a point; raise Malformed for what is none."""
        if self.kind == "ecdsa":
            return read_compressed(self.group, public) is not None
        if self.kind == "schnorr":
            read_x(self.group, public)
            return True
        return not self.group.is_small(read_edwards(self.group, public))
