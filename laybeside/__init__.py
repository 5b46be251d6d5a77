"""Laybeside: rows of letters laid beside one another."""
