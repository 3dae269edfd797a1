"""Webs of all that can come up with a set of steps."""
