"""Fakehunt: programs one step away, and what tells them."""
