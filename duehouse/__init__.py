"""Duehouse: dues under amended rules, told late, at several offices."""
