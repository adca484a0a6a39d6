"""Lookwords: numbers one to one for words."""
