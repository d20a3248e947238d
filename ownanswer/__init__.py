"""Ownanswer: server, client and kept copies of the published web protocol."""
