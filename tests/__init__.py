"""Tests of pinnedheap."""
