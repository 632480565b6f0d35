"""Autoclosing: fewest keys in an editor that closes brackets."""
