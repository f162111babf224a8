"""What steps do: facts, walks, and places and ages."""
