"""Weathers and climates."""
