"""Talkmarks: rooms of talk on several hands."""
