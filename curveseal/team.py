"""Signing together: teams of keys whose members make one Schnorr signature."""

from curveseal.encoding import write_scalar
from curveseal.errors import Malformed, OutOfRange, Refused
from curveseal.hashes import tagged
from curveseal.octets import to_big
from curveseal.points import read_compressed, read_x, write_point, write_x
from curveseal.schnorr import challenge, key_parts, nonzero_scalar, turned
from curveseal.signatures import write_x_signature

TEAM_TAG = "curveseal/team"
SHARE_TAG = "curveseal/share"
NONCE_TAG = "curveseal/nonce"
COMMIT_TAG = "curveseal/commit"

MOST_KEYS = 16


def _key_points(group, keys):
    """Return the points for which the keys of a team stand."""
    if len(keys) < 1 or len(keys) > MOST_KEYS:
        raise OutOfRange("there are not 1 to 16 keys")
    return [read_x(group, key) for key in keys]


def _root(keys):
    return tagged(TEAM_TAG, [byte for key in keys for byte in key])


def _shares(group, keys):
    root = _root(keys)
    return [nonzero_scalar(group, SHARE_TAG, root + key) for key in keys]


def _point_sum(group, points):
    """Return the sum of points; raise Refused if it is infinity."""
    total = None
    for point in points:
        total = group.add(total, point)
    if total is None:
        raise Refused("the sum of the points is infinity")
    return total


def team_shares(group, keys):
    """Return the shares of the keys of a team."""
    _key_points(group, keys)
    return _shares(group, keys)


def team_point(group, keys):
    """Return the point of a team."""
    points = _key_points(group, keys)
    terms = [group.multiply(share, point) for share, point in zip(_shares(group, keys), points)]
    return _point_sum(group, terms)


def team_key(group, keys):
    """Return the key of a team."""
    return write_x(group, team_point(group, keys))


def _nonce_point(group, form):
    """Return the point of a public nonce."""
    try:
        point = read_compressed(group, form)
    except Malformed:
        raise Refused("a public nonce is not the compressed form of a point") from None
    if point is None:
        raise Refused("a public nonce is the form of infinity")
    return point


def _check_place(keys, place):
    if place < 0 or place >= len(keys):
        raise OutOfRange("the place is not an index of the list of keys")


class Session:
    """What the keys of a team, a message and all public nonces determine."""

    def __init__(self, group, keys, message, nonces):
        whole = team_point(group, keys)
        if len(nonces) != len(keys):
            raise Refused("there is not one public nonce for each key")
        self._group = group
        self._key_points = _key_points(group, keys)
        self._nonce_points = [_nonce_point(group, form) for form in nonces]
        self._total = _point_sum(group, self._nonce_points)
        e = challenge(group, write_x(group, self._total), write_x(group, whole), message)
        # By these the even secrets and the keys are multiplied.
        self._factors = [turned(group, e * share, whole) % group.order for share in _shares(group, keys)]

    def number(self, place, nonce, even):
        """Return the partial signature of the member at a place, with its nonce and its even secret."""
        return (turned(self._group, nonce, self._total) + self._factors[place] * even) % self._group.order

    def is_right(self, place, number):
        """Tell whether a number is the right partial signature of the member at a place."""
        group = self._group
        if number < 0 or number >= group.order:
            return False
        ours = group.multiply(turned(group, 1, self._total), self._nonce_points[place])
        theirs = group.multiply(self._factors[place], self._key_points[place])
        return group.multiply(number, group.base) == group.add(ours, theirs)

    def joined(self, numbers):
        """Return the joined signature."""
        return write_x_signature(self._group, self._total, sum(numbers) % self._group.order)


class Member:
    """A member of a team that signs a message in one session."""

    def __init__(self, group, keys, place, secret, message, session):
        team_key(group, keys)
        _check_place(keys, place)
        even, key = key_parts(group, secret)
        if key != keys[place]:
            raise Refused("the key of the secret is not the key at the place")
        self._group = group
        self._keys = _copies(keys)
        self._place = place
        self._message = list(message)
        self._even = even
        start = write_scalar(group, even) + [place] + _root(keys) + to_big(len(session), 2)
        self._nonce = nonzero_scalar(group, NONCE_TAG, start + session + message)
        self._public_nonce = write_point(group, group.multiply(self._nonce, group.base))
        self._commitments = None
        self._nonces = None

    def commitment(self):
        """Return the commitment to the public nonce."""
        return tagged(COMMIT_TAG, self._public_nonce)

    def reveal(self, commitments):
        """Return the public nonce, when all commitments are told."""
        if self._commitments is not None and self._commitments != commitments:
            raise Refused("the commitments are not those of the first call")
        self._check_told(commitments, self.commitment())
        self._commitments = _copies(commitments)
        return list(self._public_nonce)

    def partial(self, nonces):
        """Return the partial signature, when all public nonces are told."""
        if self._commitments is None:
            raise Refused("the public nonce is not revealed yet")
        if self._nonces is not None and self._nonces != nonces:
            raise Refused("the public nonces are not those of the first call")
        self._check_told(nonces, self._public_nonce)
        session = Session(self._group, self._keys, self._message, nonces)
        for commitment, nonce in zip(self._commitments, nonces):
            if tagged(COMMIT_TAG, nonce) != commitment:
                raise Refused("a public nonce does not fit its commitment")
        self._nonces = _copies(nonces)
        return session.number(self._place, self._nonce, self._even)

    def _check_told(self, told, own):
        """Raise Refused if a list does not have one item for each key, and the own one at its place."""
        if len(told) != len(self._keys) or told[self._place] != own:
            raise Refused("the list does not fit the keys, or has another item at the own place")


def _copies(lists):
    return [list(item) for item in lists]


def right_partial(group, keys, message, nonces, place, number):
    """Tell whether a number is the right partial signature of the member at a place."""
    session = Session(group, keys, message, nonces)
    _check_place(keys, place)
    return session.is_right(place, number)


def join_partials(group, keys, message, nonces, numbers):
    """Return the signature that partial signatures make together."""
    session = Session(group, keys, message, nonces)
    if len(numbers) != len(keys):
        raise Refused("there is not one number for each key")
    if not all([session.is_right(place, number) for place, number in enumerate(numbers)]):
        raise Refused("a number is not a right partial signature")
    return session.joined(numbers)
