"""Woods: stretches kept in boxes, each at most once, so that those that meet are told quickly."""

from spanforest.boxes import has_stretch, looked_boxes, placed_boxes, tall_of, with_stretch, without_stretch
from spanforest.errors import Missing, Twice
from spanforest.rows import clumps_of, deepest_of, gaps_of
from spanforest.stretches import check_ends, meet, stretch_of


class Wood:
    """Keeps stretches, each at most once."""

    def __init__(self):
        self._top = None

    def put(self, low, high, mark):
        """Keep a stretch that is not kept yet."""
        stretch = stretch_of(low, high, mark)
        if has_stretch(self._top, stretch):
            raise Twice("the stretch is kept already")
        self._top = with_stretch(self._top, stretch)

    def take(self, low, high, mark):
        """Keep a stretch no longer."""
        stretch = stretch_of(low, high, mark)
        if not has_stretch(self._top, stretch):
            raise Missing("the stretch is not kept")
        self._top = without_stretch(self._top, stretch)

    def keeps(self, low, high, mark):
        """Tell whether a stretch is kept."""
        return has_stretch(self._top, stretch_of(low, high, mark))

    def listed(self):
        """Tell all kept stretches in order."""
        return [placed[0] for placed in placed_boxes(self._top)]

    def total(self):
        """Tell how many stretches are kept."""
        return len(placed_boxes(self._top))

    def meeting(self, low, high):
        """Tell the kept stretches that meet the one from low to high, in order."""
        # Marks play no part in meeting, so any mark will do.
        asked = stretch_of(low, high, 0)
        return [box.stretch for box in looked_boxes(self._top, low, high) if meet(box.stretch, asked)]

    def holding(self, place):
        """Tell the kept stretches that hold a place, in order."""
        return self.meeting(place, place)

    def looked(self, low, high):
        """Tell how many boxes a question from low to high looks at."""
        check_ends(low, high)
        return len(looked_boxes(self._top, low, high))

    def gaps(self, low, high):
        """Tell the longest runs from low to high that no kept stretch holds."""
        return gaps_of(self.listed(), low, high)

    def clumps(self):
        """Tell the least low, the greatest high and the number of stretches of each clump."""
        return clumps_of(self.listed())

    def deepest(self, low, high):
        """Tell how many kept stretches hold the deepest place from low to high, and the least such place."""
        return deepest_of(self.listed(), low, high)

    def branch(self):
        """Tell another wood that keeps the same stretches."""
        # The boxes are never changed, so both woods can begin with the same ones.
        other = Wood()
        other._top = self._top
        return other

    def height(self):
        """Tell the height of the top box, nought where nothing is kept."""
        return tall_of(self._top)

    def boxes(self):
        """Tell all boxes in order, each as (stretch, depth, height, reach)."""
        return placed_boxes(self._top)
