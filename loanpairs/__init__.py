"""Loanpairs: references lent on, and no use that comes too late."""
