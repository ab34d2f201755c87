"""Deeds: each tells, of the volume ahead of it, the homes that it changes and their new rows."""


class Deed:
    def homes(self, layout, volume):
        rows = self.rows(layout, volume)
        # A row may come out as it was, say where numbers are written that stand there already.
        return [(block, list(rows[block])) for block in sorted(rows) if rows[block] != volume[block]]

    def rows(self, layout, volume):
        return {}
