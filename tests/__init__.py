"""The tests of Lorestead."""
