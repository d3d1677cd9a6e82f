"""Pactway: agreements gone through turn by turn."""
