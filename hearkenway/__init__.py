"""Hearkenway: a tree of copies for hearers who come and go."""
