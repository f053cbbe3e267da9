"""Blockdeal: addresses dealt out in blocks of halves."""
