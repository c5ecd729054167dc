"""Pairsfar: pairs of places at a told distance in a tree."""
