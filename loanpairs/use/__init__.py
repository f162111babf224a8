"""What callers have to know, and what can be changed: contracts, advice, copies and a usual check."""
