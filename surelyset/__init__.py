"""Surelyset: names that are surely set before they are read."""
