"""What a lacquer makes of one told weather."""
