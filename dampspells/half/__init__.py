"""Work that is only half seen, or told late."""
