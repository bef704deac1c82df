"""Windways: what the air in a mine whose ways have unknown widths can do, and what it surely does."""
