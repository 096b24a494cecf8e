"""Savedseats: a seat that is saved and given back along all ways of a web."""
