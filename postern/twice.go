package postern

import (
	"postern/api"
	"postern/book"
)

// Twice tells what was let in more than once (P9).
func (g *Gate) Twice() []api.Twice {
	if g == nil {
		return nil
	}
	var list []api.Twice
	for rest := g.book.Entries(); len(rest) > 0; {
		n := sameAhead(rest)
		if n > 1 {
			list = append(list, twice(rest[:n]))
		}
		rest = rest[n:]
	}
	return list
}

// sameAhead is how many of the first entries have one pass.
func sameAhead(list []book.Entry) int {
	n := 0
	for n < len(list) && list[n].Pass == list[0].Pass {
		n++
	}
	return n
}

func twice(same []book.Entry) api.Twice {
	gates := make([]int, len(same))
	for i, e := range same {
		gates[i] = e.Gate
	}
	return api.Twice{Epoch: same[0].Epoch, Serial: same[0].Serial, Gates: gates}
}
