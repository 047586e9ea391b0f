"""Behindtaps: what holds for all pipes behind a wall."""
