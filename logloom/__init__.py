"""Logloom: rows that programs say, and the forms behind them."""
