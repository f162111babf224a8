"""Texts of all kinds of values, and commands."""
