"""Hushkernel: what the tasks of a small kernel can tell one another."""
