"""Rows of numbers whose squares come to so many times their product."""
