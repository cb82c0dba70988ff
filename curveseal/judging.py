"""Judging a log, and the paths of keys in a log."""

from curveseal.desk import Desk
from curveseal.entries import ADMIT, REPLACE, WITHDRAW


def judge(name, roots, log):
    """Return how many entries a new desk accepts before the first refused one, and why that is refused."""
    desk = Desk(name, roots)
    for count, entry in enumerate(log):
        reason = desk.offer(entry)
        if reason != "":
            return count, reason
    return len(log), ""


def good_path(roots, log, index, key, path):
    """Tell whether a path of a key is good at an index of a log."""
    if index > len(log) or not _ascends([-1] + path + [index]):
        return False
    entries = [log[at] for at in path]
    if not all([entry[0] in (ADMIT, REPLACE) for entry in entries]):
        return False
    authors = [entry[1] for entry in entries]
    made = [entry[2][0] for entry in entries]
    # The line of the key, its root first.
    line = authors[:1] + made if len(path) > 0 else [key]
    if line[0] not in roots or line[-1] != key or authors[1:] != made[:-1]:
        return False
    gone = [entry[2][0] for entry in log[:index] if entry[0] == WITHDRAW]
    return not any([other in gone for other in line])


def _ascends(numbers):
    return all([first < second for first, second in zip(numbers, numbers[1:])])


def common_beginning(first, second):
    """Return the number of equal entries at the beginning of two logs."""
    count = 0
    for one, other in zip(first, second):
        if one != other:
            return count
        count += 1
    return count
