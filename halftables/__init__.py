"""Searches from a corner in tables that are not in order."""
