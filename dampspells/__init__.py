"""Dampspells: coats of lacquer between damp spells."""
