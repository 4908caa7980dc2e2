"""Sealgrove: signatures made of digests."""
