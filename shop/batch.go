package shop

import "sync"

// mostWorkers: more of them count as these.
const mostWorkers = 16

// Batch: Run of each text, by so many workers.
func Batch(texts []string, workers int) []string {
	answers := make([]string, len(texts))
	q := &queue{end: len(texts)}
	var group sync.WaitGroup
	for range min(max(workers, 1), mostWorkers) {
		group.Add(1)
		go func() {
			defer group.Done()
			for at, left := q.take(); left; at, left = q.take() {
				// A place is taken by one worker alone, so that no schedule is to be seen.
				answers[at] = Run(texts[at])
			}
		}()
	}
	group.Wait()
	return answers
}

// A queue gives out the places 0 to end - 1, each to one that asks.
type queue struct {
	mutex sync.Mutex
	next  int
	end   int
}

// take: the next place; is there one?
func (q *queue) take() (int, bool) {
	q.mutex.Lock()
	defer q.mutex.Unlock()
	if q.next >= q.end {
		return 0, false
	}
	at := q.next
	q.next++
	return at, true
}
