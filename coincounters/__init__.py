"""Coins changed at counters that round down."""
