"""Nestturn: programs of loops, and their steps in other orders."""
