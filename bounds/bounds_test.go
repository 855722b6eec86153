package bounds

import (
	"math"
	"testing"
)

func TestWithin(t *testing.T) {
	for _, c := range []struct {
		n, least, most int
		want           bool
	}{
		{0, 1, 3, false}, {1, 1, 3, true}, {2, 1, 3, true}, {3, 1, 3, true}, {4, 1, 3, false},
		{5, 5, 5, true}, {4, 5, 5, false}, {6, 5, 5, false},
		{5, 6, 4, false},
		{math.MinInt, -1, 1, false}, {math.MaxInt, -1, 1, false},
		{math.MinInt, math.MinInt, math.MaxInt, true}, {math.MaxInt, math.MinInt, math.MaxInt, true},
	} {
		if got := Within(c.n, c.least, c.most); got != c.want {
			t.Errorf("Within(%d, %d, %d) = %t", c.n, c.least, c.most, got)
		}
	}
}
