"""Shardstack: a store of keys in shards, each kept by machines that agree on a log."""
