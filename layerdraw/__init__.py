"""Layerdraw: nets of arrows on levels."""
