"""Scripts that edit texts line by line: runs and origins."""
