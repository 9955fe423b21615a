"""Holdhouse: calls on hold in a house with few lines."""
