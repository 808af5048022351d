"""Sayings that speak of what can be shown."""
