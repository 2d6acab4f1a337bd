"""Hushes: what a person wants no bell for."""

from talkmarks.logs import deeds_by


def hushes_of(log, name):
    # Of several pairs with one key a dict keeps the last, and a log rises by stamps.
    hushes = dict([(deed[3][1], deed[3][2]) for deed in deeds_by(log, "hush", name)])
    return sorted([what for what in hushes if hushes[what]])
