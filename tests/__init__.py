"""The tests of wishesrise."""
