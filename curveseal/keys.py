"""Texts of public keys, letters, and answers to challenges."""

from curveseal.errors import Malformed, OutOfRange, Refused
from curveseal.hashes import tagged
from curveseal.octets import ascii_codes, from_digits, to_digits
from curveseal.schemes import LONGEST_MESSAGE, scheme_named

KEY_TAG = "curveseal/key"
CHECK_SIZE = 4

LETTER_TITLE = "curveseal letter"

ANSWER_TITLE = "curveseal answer"
LONGEST_CHALLENGE = 1024


def key_text(scheme, public):
    """Return the text of a public key."""
    if not scheme.is_proper(public):
        raise Malformed("the byte list is no proper public key of the scheme")
    start = f"{scheme.name}:{to_digits(public)}"
    check = tagged(KEY_TAG, ascii_codes(start))[:CHECK_SIZE]
    return f"{start}:{to_digits(check)}"


def read_key(text):
    """Return the scheme and the public key of a text."""
    words = text.split(":")
    if len(words) != 3:
        raise Malformed("the text does not have three parts")
    scheme = scheme_named(words[0])
    public = from_digits(words[1])
    if key_text(scheme, public) != text:
        raise Malformed("the last digits do not fit the rest of the text")
    return scheme, public


def write_letter(scheme, secret, message):
    """Return the letter with a message."""
    signature = scheme.sign(secret, message)
    key = key_text(scheme, scheme.public(secret))
    return "\n".join([LETTER_TITLE, key, to_digits(message), to_digits(signature)])


def read_letter(text):
    """Return the text of the key and the message of a letter."""
    lines = text.split("\n")
    if len(lines) != 4 or lines[0] != LETTER_TITLE:
        raise Malformed("the text does not have the four lines of a letter")
    scheme, public = read_key(lines[1])
    message = from_digits(lines[2])
    signature = from_digits(lines[3])
    if len(message) > LONGEST_MESSAGE:
        raise Malformed("the message has more than 65536 bytes")
    if not scheme.accepts(public, message, signature):
        raise Refused("the signature is not accepted")
    return lines[1], message


def answer_challenge(scheme, secret, challenge):
    """Return the answer to a challenge."""
    return scheme.sign(secret, _asked(challenge))


def is_answer(scheme, public, challenge, signature):
    """Tell whether a signature is an answer to a challenge."""
    return scheme.accepts(public, _asked(challenge), signature)


def _asked(challenge):
    """Return what an answer to a challenge signs."""
    if len(challenge) > LONGEST_CHALLENGE:
        raise OutOfRange("the challenge has more than 1024 bytes")
    return ascii_codes(ANSWER_TITLE) + [0] + challenge
