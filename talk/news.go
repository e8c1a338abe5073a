package talk

import (
	"postern/api"
	"postern/book"
	"postern/bounds"
)

// Item tells an admission, with its pass if that is known.
func Item(a book.Admission, p book.Pass, known bool) api.Item {
	if !known {
		return api.Item{Gate: a.Gate, Admission: a.Number, Gone: true}
	}
	return api.Item{Gate: a.Gate, Admission: a.Number, Epoch: p.Epoch, Serial: p.Serial}
}

// AreItems tells whether a gate could have told this list.
func AreItems(list []api.Item) bool {
	for i, item := range list {
		if !isItem(item) || i > 0 && !rises(list[i-1], item) {
			return false
		}
	}
	return true
}

func isItem(i api.Item) bool {
	if i.Gone && (i.Epoch != 0 || i.Serial != 0) {
		return false
	}
	return bounds.Gate(i.Gate) && bounds.Admission(i.Admission) && bounds.Epoch(i.Epoch) && bounds.Serial(i.Serial)
}

func rises(a api.Item, b api.Item) bool {
	return a.Gate < b.Gate || a.Gate == b.Gate && a.Admission < b.Admission
}
