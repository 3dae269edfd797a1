"""What mends the work: other signs, other numbers."""
