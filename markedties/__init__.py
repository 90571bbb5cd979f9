"""Markedties: trees whose ties all differ."""
