"""Least cuts of a web for every price at once, one within another."""
