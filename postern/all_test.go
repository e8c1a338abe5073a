package postern

import (
	"runtime"
	"slices"
	"strconv"
	"strings"
	"sync"
	"testing"
	"time"

	"postern/api"
)

// manyChecks: n checks, and what is to be answered.
func manyChecks(n int) ([]api.Check, []bool) {
	seed := strings.Repeat("a", 32)
	key, _ := Key(seed)
	var checks []api.Check
	var want []bool
	for i := range n {
		text := strconv.Itoa(i)
		signature, _ := Sign(seed, text)
		check := api.Check{Key: key, Text: text, Signature: signature}
		switch i * i % 7 {
		case 1:
			check.Text += "x"
		case 2:
			check.Key = turned(key, i%256)
		case 4:
			check.Signature = signature[:i%64]
		}
		checks, want = append(checks, check), append(want, i%7 == 0)
	}
	return checks, want
}

func TestAll(t *testing.T) {
	if l := All(nil); len(l) != 0 {
		t.Errorf("P4: All of nothing = %v", l)
	}
	if l := All([]api.Check{}); len(l) != 0 {
		t.Errorf("P4: All of an empty list = %v", l)
	}
	for _, n := range []int{1, 2, 7, 8, 9, 16, 17, 100, 300} {
		checks, want := manyChecks(n)
		if l := All(checks); !slices.Equal(l, want) {
			t.Errorf("P4: All of %d = %v, want %v", n, l, want)
		}
	}
	if l := All(make([]api.Check, 40)); !slices.Equal(l, make([]bool, 40)) {
		t.Errorf("P4: All of empty checks = %v", l)
	}
}

func TestAllKeepsAndSharesNothing(t *testing.T) {
	checks, want := manyChecks(20)
	given := slices.Clone(checks)
	first, second := All(given), All(given)
	if !slices.Equal(given, checks) {
		t.Error("P2: All changed its list")
	}
	for i := range first {
		first[i] = !first[i]
	}
	for i := range first[:cap(first)] {
		first[:cap(first)][i] = true
	}
	if !slices.Equal(second, want) || !slices.Equal(All(given), want) {
		t.Error("P2: writing into an answer of All changed another")
	}
	clear(given)
	if !slices.Equal(second, want) {
		t.Error("P2: an answer of All hangs on the list that was handed in")
	}
}

func TestAllLeavesNoGoroutine(t *testing.T) {
	checks, _ := manyChecks(30)
	before := runtime.NumGoroutine()
	for range 20 {
		All(checks)
	}
	// One that has told the WaitGroup may still be on its last step.
	for range 100 {
		if runtime.NumGoroutine() <= before {
			return
		}
		time.Sleep(time.Millisecond)
	}
	t.Errorf("P4: %d goroutines before All, %d behind it", before, runtime.NumGoroutine())
}

func TestAllAtOnce(t *testing.T) {
	checks, want := manyChecks(25)
	var group sync.WaitGroup
	for range 6 {
		group.Go(func() {
			if l := All(checks); !slices.Equal(l, want) {
				t.Errorf("P4: All = %v, want %v", l, want)
			}
		})
	}
	group.Wait()
}
