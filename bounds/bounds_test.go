package bounds

import (
	"math"
	"testing"
)

func TestBounds(t *testing.T) {
	for _, c := range []struct {
		name        string
		may         func(int) bool
		least, most int
	}{{"Gate", Gate, 0, 15}, {"Admission", Admission, 1, 1000}, {"Epoch", Epoch, 0, 65535}, {"Serial", Serial, 0, 4294967295}, {"Class", Class, 0, 255}} {
		for _, n := range []int{c.least, c.least + 1, c.most / 2, c.most - 1, c.most} {
			if !c.may(n) {
				t.Errorf("P5, P6, P8: %s(%d) = false", c.name, n)
			}
		}
		for _, n := range []int{c.least - 1, c.most + 1, -c.most, 2*c.most + 1, math.MinInt, math.MaxInt} {
			if c.may(n) {
				t.Errorf("P5, P6, P8: %s(%d) = true", c.name, n)
			}
		}
	}
}
