package postern

import (
	"sync"

	"postern/api"
)

const (
	// maxWorkers: more would only wait for one another on an everyday machine.
	maxWorkers = 8
	// ahead is how many questions a worker may have waiting, so that the sender need not wait for each.
	ahead = 16
)

// question is a check, and where in the list its answer belongs.
type question struct {
	place int
	check api.Check
}

// askAll shares the checks out among workers.
func askAll(checks []api.Check) []bool {
	answers := make([]bool, len(checks))
	channels := make([]chan question, min(len(checks), maxWorkers))
	var working sync.WaitGroup
	for i := range channels {
		channels[i] = make(chan question, ahead)
		working.Add(1)
		go func() {
			defer working.Done()
			work(channels[i], answers)
		}()
	}
	for i, check := range checks {
		channels[i%len(channels)] <- question{place: i, check: check}
	}
	for _, channel := range channels {
		close(channel)
	}
	working.Wait()
	return answers
}

// work answers what comes in. No two workers are sent one place, so none needs a lock.
func work(questions <-chan question, answers []bool) {
	for q := range questions {
		answers[q.place] = Right(q.check.Key, q.check.Text, q.check.Signature)
	}
}
