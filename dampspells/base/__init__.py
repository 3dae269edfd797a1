"""Errors, fractions and lacquers, on which everything else rests."""
