"""Edited outputs led back into records, where the program allows it."""
