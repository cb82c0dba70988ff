"""The desk: a log of signed entries, and what follows from it about keys."""

from curveseal.entries import ADMIT, REPLACE, WITHDRAW, consent_bytes, first_head, is_entry, next_head, signed_bytes
from curveseal.errors import Malformed, OutOfRange, Refused
from curveseal.keys import read_key

NAME_LETTERS = "abcdefghijklmnopqrstuvwxyz"
LONGEST_NAME = 32
MOST_ROOTS = 16

ALL_RIGHTS = "asw"

# The right that each kind of entry needs; a key needs none to replace itself.
NEEDED_RIGHTS = {"state": "s", "admit": "a", "replace": "", "withdraw": "w"}

UNKNOWN = "unknown"
IN_FORCE = "in force"
REPLACED = "replaced"
WITHDRAWN = "withdrawn"


def is_name(text, longest):
    """Tell whether a text is a name of 1 to so many small letters."""
    return 1 <= len(text) <= longest and all([letter in NAME_LETTERS for letter in text])


class KnownKey:
    """What a desk knows of a key."""

    def __init__(self, text, parent, granted, made_at):
        self.scheme, self.form = read_key(text)
        self.parent = parent
        self.granted = granted
        # The index of the entry that made the key known, or None for a root.
        self.made_at = made_at
        self.is_replaced = False
        # This is set only for the very key that a withdrawal names, not for what goes back to it.
        self.is_cut = False


class Desk:
    """A desk with a name and root keys, which accepts entries or refuses them."""

    def __init__(self, name, roots):
        if not is_name(name, LONGEST_NAME):
            raise OutOfRange("the name does not consist of 1 to 32 small letters")
        if len(roots) < 1 or len(roots) > MOST_ROOTS:
            raise OutOfRange("there are not 1 to 16 roots")
        if len(set(roots)) < len(roots):
            raise OutOfRange("a root stands twice")
        self._keys = {root: KnownKey(root, None, ALL_RIGHTS, None) for root in roots}
        self._log = []
        self._head = first_head(name, roots)

    def offer(self, entry):
        """Append an entry if it is accepted; return the empty string, or why it is refused."""
        reason = self.would(entry)
        if reason == "":
            self._apply(entry)
        return reason

    def _apply(self, entry):
        kind, author, body, _ = entry
        if kind == ADMIT:
            self._keys[body[0]] = KnownKey(body[0], author, body[1], len(self._log))
        if kind == REPLACE:
            self._keys[body[0]] = KnownKey(body[0], author, self._keys[author].granted, len(self._log))
            self._keys[author].is_replaced = True
        if kind == WITHDRAW:
            self._keys[body[0]].is_cut = True
        self._head = next_head(self._head, entry)
        self._log.append(entry)

    def would(self, entry):
        """Return what offer would return, and change nothing."""
        if not is_entry(entry):
            return "form"
        kind, author, body, signature = entry
        reason = self._author_reason(kind, author, body)
        if reason == "" and kind in (ADMIT, REPLACE):
            reason = self._new_key_reason(kind, author, body)
        if reason == "" and kind == WITHDRAW:
            reason = self._target_reason(author, body[0])
        if reason != "":
            return reason
        known = self._keys[author]
        signed = signed_bytes(self._head, entry)
        return "" if known.scheme.accepts(known.form, signed, list(signature)) else "signature"

    def _author_reason(self, kind, author, body):
        status = self.status(author)
        if status != IN_FORCE:
            return status
        withdraws_itself = kind == WITHDRAW and body[0] == author
        if not withdraws_itself and NEEDED_RIGHTS[kind] not in self._keys[author].granted:
            return "right"
        return ""

    def _new_key_reason(self, kind, author, body):
        key = body[0]
        try:
            scheme, form = read_key(key)
        except Malformed:
            return "key"
        if key in self._keys:
            return "known"
        if kind == ADMIT:
            granted = self._keys[author].granted
            return "" if all([letter in granted for letter in body[1]]) else "rights"
        asked = consent_bytes(self._head, author, key)
        return "" if scheme.accepts(form, asked, list(body[1])) else "consent"

    def _target_reason(self, author, key):
        if key not in self._keys or author not in self.line(key):
            return "target"
        return "gone" if self.status(key) == WITHDRAWN else ""

    def log(self):
        """Return the accepted entries."""
        return list(self._log)

    def head(self):
        """Return the head, on which the next entry depends."""
        return list(self._head)

    def status(self, key):
        """Return what has become of a key."""
        if key not in self._keys:
            return UNKNOWN
        if any([self._keys[other].is_cut for other in self.line(key)]):
            return WITHDRAWN
        return REPLACED if self._keys[key].is_replaced else IN_FORCE

    def rights(self, key):
        """Return the rights of a known key, or None."""
        return self._keys[key].granted if key in self._keys else None

    def line(self, key):
        """Return a known key, its parent, and so on up to a root."""
        if key not in self._keys:
            raise Refused("the key is not known")
        found = []
        other = key
        while other is not None:
            found.append(other)
            other = self._keys[other].parent
        return found

    def path(self, key):
        """Return the indexes of the entries that made the keys of the line known, the oldest first."""
        indexes = [self._keys[other].made_at for other in self.line(key)]
        return [index for index in indexes[::-1] if index is not None]

    def known(self):
        """Return the known keys in the order in which they became known."""
        return list(self._keys)
