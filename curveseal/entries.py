"""Entries of a desk's log, and the bytes of them that are signed."""

from curveseal.errors import Malformed
from curveseal.hashes import Sha256
from curveseal.keys import key_text
from curveseal.octets import ascii_codes, is_bytes, to_big

STATE = "state"
ADMIT = "admit"
REPLACE = "replace"
WITHDRAW = "withdraw"

# All strings of rights, in which each letter stands at most once and in its order.
RIGHTS = ("", "a", "s", "w", "as", "aw", "sw", "asw")

LONGEST_TEXT = 600
LONGEST_DATA = 1024
LONGEST_SIGNATURE = 256


def is_entry(value):
    """Tell whether a value of any kind is an entry."""
    if not isinstance(value, tuple) or len(value) != 4:
        return False
    kind, author, body, signature = value
    if not _is_text(author) or not isinstance(body, tuple) or not _is_byte_tuple(signature, LONGEST_SIGNATURE):
        return False
    return isinstance(kind, str) and _is_body(kind, body)


def _is_body(kind, body):
    if kind == STATE:
        return len(body) == 1 and _is_byte_tuple(body[0], LONGEST_DATA)
    if kind == ADMIT:
        return len(body) == 2 and _is_text(body[0]) and isinstance(body[1], str) and body[1] in RIGHTS
    if kind == REPLACE:
        return len(body) == 2 and _is_text(body[0]) and _is_byte_tuple(body[1], LONGEST_SIGNATURE)
    return kind == WITHDRAW and len(body) == 1 and _is_text(body[0])


def _is_byte_tuple(value, longest):
    return isinstance(value, tuple) and len(value) <= longest and is_bytes(list(value))


def _is_text(value):
    if not isinstance(value, str) or len(value) > LONGEST_TEXT:
        return False
    try:
        ascii_codes(value)
    except Malformed:
        return False
    return True


def pack(parts):
    """Return the joined byte lists, with the length of each of them in front of it."""
    return [byte for part in parts for byte in to_big(len(part), 3) + list(part)]


def first_head(name, roots):
    """Return the head of a desk without entries."""
    return _digest([ascii_codes(text) for text in ["curveseal desk", name] + list(roots)])


def _digest(parts):
    return Sha256().digest(pack(parts))


def signed_bytes(head, entry):
    """Return the bytes of an entry that its author signs."""
    kind, author, body, _ = entry
    start = [ascii_codes("curveseal entry"), head, ascii_codes(kind), ascii_codes(author)]
    if kind == STATE:
        return pack(start + [body[0]])
    if kind == ADMIT:
        return pack(start + [ascii_codes(body[0]), ascii_codes(body[1])])
    return pack(start + [ascii_codes(body[0])])


def consent_bytes(head, author, key):
    """Return the bytes that a new key signs to replace another one."""
    return pack([ascii_codes("curveseal consent"), head, ascii_codes(author), ascii_codes(key)])


def next_head(head, entry):
    """Return the head behind an entry."""
    kind, _, body, signature = entry
    consent = body[1] if kind == REPLACE else ()
    return _digest([ascii_codes("curveseal head"), signed_bytes(head, entry), consent, signature])


def make_entry(head, scheme, secret, kind, body):
    """Return an entry of the author whose secret it is."""
    author = key_text(scheme, scheme.public(secret))
    data = signed_bytes(head, (kind, author, body, ()))
    return (kind, author, body, tuple(scheme.sign(secret, data)))


def make_replacement(head, scheme, secret, new_scheme, new_secret):
    """Return an entry that replaces a key by another one, with the consent of the other one."""
    author = key_text(scheme, scheme.public(secret))
    key = key_text(new_scheme, new_scheme.public(new_secret))
    consent = new_scheme.sign(new_secret, consent_bytes(head, author, key))
    return make_entry(head, scheme, secret, REPLACE, (key, tuple(consent)))
