"""Which answers to keep ready: groupings."""
