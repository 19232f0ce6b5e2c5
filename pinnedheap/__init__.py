"""Pinnedheap: how many pages a heap needs whose blocks never move."""
