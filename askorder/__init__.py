"""Askorder: things decided two by two, in an order that a chair sets."""
