"""Bestheads: the best few by several lists, from the first lines."""
