"""What a lacquer and a climate make of each other."""
