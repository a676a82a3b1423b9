"""Sayings about places and sets of places, and the machines that know them."""
