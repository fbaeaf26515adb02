package engine

import "sync"

const mostWorkers = 16

// pieces: the list, cut into as many pieces as there are workers to take one; none of them is empty.
func pieces[T any](list []T, workers int) [][]T {
	count := min(max(workers, 1), mostWorkers, len(list))
	cut := make([][]T, count)
	for i := range cut {
		cut[i] = list[i*len(list)/count : (i+1)*len(list)/count]
	}
	return cut
}

// sideBySide: what work answers of each piece, in their order. Every piece has a worker of its own, which writes into its own place alone, so that no schedule is to be seen; all have ended when it answers.
func sideBySide[T, R any](cut [][]T, work func(piece []T) R) []R {
	out := make([]R, len(cut))
	var all sync.WaitGroup
	for i, piece := range cut {
		all.Add(1)
		go func() {
			defer all.Done()
			out[i] = work(piece)
		}()
	}
	all.Wait()
	return out
}
