"""Words, steps and functions."""
