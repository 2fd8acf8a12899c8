"""Wishesrise: rising wishes that never work against one another."""
