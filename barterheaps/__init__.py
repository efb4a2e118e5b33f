"""Barterheaps: exchanges that join all heaps."""
