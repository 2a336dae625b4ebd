"""And, or and shares for looks that are done in rooms."""
