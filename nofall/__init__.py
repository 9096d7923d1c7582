"""Nofall: webs of ties that no one fall parts, and the fewest ties that make them so."""
