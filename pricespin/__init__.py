"""Pricespin: prices that follow prices, by written rules and in any order."""
