"""Piecedeal: pieces dealt among hands, round by round."""
