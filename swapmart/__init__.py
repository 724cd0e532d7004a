"""Swapmart: purses under swaps, told exactly."""
