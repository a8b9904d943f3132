"""Grammars seen through before any text is read."""
