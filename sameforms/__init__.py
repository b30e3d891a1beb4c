"""Sameforms: which forms of a table a book of endings can make alike."""
