"""How much work a call takes, as a number that is alike on every machine."""

import sys


def many_calls(function, *arguments):
    """Return how many functions are called in a call, itself included."""
    counts = [0]

    def count(frame, event, argument):
        counts[0] += event == "call"

    before = sys.getprofile()
    sys.setprofile(count)
    try:
        function(*arguments)
    finally:
        sys.setprofile(before)
    return counts[0]
