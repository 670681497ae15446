package share

import (
	"sync"

	"breakwater/api"
	"breakwater/fs"
)

// workers is how many goroutines ask for one Each, at most.
const workers = 16

// round is the questions of one Each, and what was answered.
type round struct {
	turn    sync.Mutex // of one goroutine: a question too changes what the file system keeps (whether it lives)
	f       *fs.FS
	ops     []api.Op
	answers []api.Answer
	places  chan int // the places of the questions that are not asked yet
}

// askAll asks questions by goroutines, which have ended when it answers.
func askAll(f *fs.FS, ops []api.Op) []api.Answer {
	r := &round{f: f, ops: ops, answers: make([]api.Answer, len(ops)), places: make(chan int, len(ops))}
	for i := range ops {
		r.places <- i
	}
	close(r.places)
	var group sync.WaitGroup
	for range min(len(ops), workers) {
		group.Add(1)
		go func() {
			defer group.Done()
			for r.askNext() {
			}
		}()
	}
	group.Wait()
	return r.answers
}

// askNext asks the next question, if there is one. Its place is taken within the turn, so that the questions are asked in their order, whichever goroutine runs first: which of them meets a lost disk hangs on no goroutine.
func (r *round) askNext() bool {
	r.turn.Lock()
	defer r.turn.Unlock()
	i, more := <-r.places
	if more {
		r.answers[i] = ask(r.f, r.ops[i])
	}
	return more
}
