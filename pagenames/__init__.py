"""Pagenames: names of pages, and where old ones lead."""
