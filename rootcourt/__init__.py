"""Rootcourt: exact numbers told as roots."""
