"""Looks: which seats see that something is wrong, and why there is always one."""
