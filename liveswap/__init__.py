"""Liveswap: a running machine changed for another one."""
