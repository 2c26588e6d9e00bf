"""Least sets of indexes within a room."""
