"""Minusless: tables of numbers without negative minors."""
