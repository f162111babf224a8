"""Programs that are written bit by bit."""
