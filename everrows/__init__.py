"""Everrows: letters laid in rows, endlessly often to the right, to the left, and mixed, and readers of them."""
