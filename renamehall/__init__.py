"""Renamehall: many names changed at once in a tree of drawers."""
