"""A ward's rota, laid, mended and told why."""
