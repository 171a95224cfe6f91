"""Ways over rough ground: cheapest ways, fields that are mended, walkers."""
