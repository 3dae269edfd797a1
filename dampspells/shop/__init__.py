"""A desk, a language and columns for those who do the work."""
