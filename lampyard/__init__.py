"""Lampyard: lamps tied to one another, and presses that lead from one light to another."""
