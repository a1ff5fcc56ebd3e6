"""Signsleft: pages that name one another."""
