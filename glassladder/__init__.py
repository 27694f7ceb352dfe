"""Glassladder: real machines, sayings about them, and smaller machines that show why."""
