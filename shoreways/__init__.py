"""Shoreways: stones on six-sided cells, and who comes from shore to shore."""
