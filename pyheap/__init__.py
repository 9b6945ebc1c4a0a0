"""Pyheap: memory with counts and a collector."""
