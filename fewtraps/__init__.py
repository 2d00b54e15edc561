"""Fewtraps: a debugger with few traps that misses nothing and bounds its idle stops."""
