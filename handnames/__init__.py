"""Handnames: small names for hands that share boxes alone, whatever the weaving."""
