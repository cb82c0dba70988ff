"""Points 168 to 172, each answer found by a look at the whole log."""

import hashlib

from curveseal.entries import consent_bytes, is_entry, make_entry, make_replacement, signed_bytes
from curveseal.errors import Malformed, Refused
from curveseal.keys import key_text, read_key
from curveseal.schemes import scheme_named


class Actor:
    """A scheme and a secret, with the text of their key."""

    def __init__(self, name, secret):
        self.scheme = scheme_named(name)
        self.secret = secret
        self.key = key_text(self.scheme, self.scheme.public(secret))

    def entry(self, head, kind, body):
        return make_entry(head, self.scheme, self.secret, kind, body)

    def state(self, desk, *data):
        return self.entry(desk.head(), "state", (tuple(data),))

    def admit(self, desk, key, rights):
        return self.entry(desk.head(), "admit", (key, rights))

    def withdraw(self, desk, key):
        return self.entry(desk.head(), "withdraw", (key,))

    def replace(self, desk, other):
        return make_replacement(desk.head(), self.scheme, self.secret, other.scheme, other.secret)


def is_refused(scheme, secret):
    """Tell whether a scheme refuses a secret."""
    try:
        scheme.public(secret)
    except Refused:
        return True
    return False


def packed(*parts):
    """Return the pack of byte lists and texts."""
    found = []
    for part in parts:
        data = list(part.encode()) if isinstance(part, str) else list(part)
        found += list(len(data).to_bytes(3, "big")) + data
    return found


def plain_head(name, roots, log):
    """Return the head behind a log (point 167)."""
    head = hashlib.sha256(bytes(packed("curveseal desk", name, *roots))).digest()
    for kind, author, body, signature in log:
        parts, consent = (body[:1], body[1]) if kind == "replace" else (body, ())
        signed = packed("curveseal entry", head, kind, author, *parts)
        head = hashlib.sha256(bytes(packed("curveseal head", signed, consent, signature))).digest()
    return list(head)


def maker(log, key):
    """Return the index of the entry that made a key known, or None."""
    for index, (kind, _, body, _) in enumerate(log):
        if kind in ("admit", "replace") and body[0] == key:
            return index
    return None


def known(roots, log):
    return list(roots) + [body[0] for kind, _, body, _ in log if kind in ("admit", "replace")]


def line(roots, log, key):
    if key in roots:
        return [key]
    return [key] + line(roots, log, log[maker(log, key)][1])


def path(roots, log, key):
    return sorted(maker(log, other) for other in line(roots, log, key) if other not in roots)


def rights(roots, log, key):
    if key in roots:
        return "asw"
    if key not in known(roots, log):
        return None
    kind, author, body, _ = log[maker(log, key)]
    return body[1] if kind == "admit" else rights(roots, log, author)


def status(roots, log, key):
    if key not in known(roots, log):
        return "unknown"
    for kind, _, body, _ in log:
        if kind == "withdraw" and body[0] in line(roots, log, key):
            return "withdrawn"
    if any(kind == "replace" and author == key for kind, author, _, _ in log):
        return "replaced"
    return "in force"


def signed(key, data, signature):
    scheme, public = read_key(key)
    return scheme.accepts(public, data, list(signature))


def is_key(text):
    try:
        read_key(text)
    except Malformed:
        return False
    return True


def reason(name, roots, log, entry):
    """Return the first reason of point 170 that applies, or the empty string."""
    if not is_entry(entry):
        return "form"
    kind, author, body, signature = entry
    now = status(roots, log, author)
    head = plain_head(name, roots, log)
    if now != "in force":
        return now
    needed = {"state": "s", "admit": "a", "withdraw": "w", "replace": ""}[kind]
    if needed not in rights(roots, log, author) and not (kind == "withdraw" and body[0] == author):
        return "right"
    if kind in ("admit", "replace"):
        if not is_key(body[0]):
            return "key"
        if body[0] in known(roots, log):
            return "known"
        if kind == "admit" and set(body[1]) - set(rights(roots, log, author)):
            return "rights"
        if kind == "replace" and not signed(body[0], consent_bytes(head, author, body[0]), body[1]):
            return "consent"
    if kind == "withdraw":
        if body[0] not in known(roots, log) or author not in line(roots, log, body[0]):
            return "target"
        if status(roots, log, body[0]) == "withdrawn":
            return "gone"
    return "" if signed(author, signed_bytes(head, entry), signature) else "signature"
