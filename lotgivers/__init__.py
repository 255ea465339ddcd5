"""Gifts drawn by lot: circles, and who gives to whom in them."""
