"""Comparisons of climates and of lacquers."""
