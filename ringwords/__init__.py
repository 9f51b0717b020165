"""Ways on surfaces as words, rings that are nothing, and papers that show it."""
