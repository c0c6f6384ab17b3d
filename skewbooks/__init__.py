"""Skewbooks: rows of many houses, put in order by clocks that are off."""
