"""Balconyrow: a row seen from balconies, and who changes places unseen."""
