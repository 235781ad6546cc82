"""Stayprice: prices of stays, night by night."""
