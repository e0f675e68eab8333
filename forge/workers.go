package forge

import (
	"sync"
	"sync/atomic"
)

// mostWorkers is how many goroutines a call may be asked to take.
const mostWorkers = 64

func canWork(workers int) bool { return workers >= 1 && workers <= mostWorkers }

// shareOut has so many goroutines do what is to be done for the numbers from 0 to below count, each number once, and waits till all is done.
func shareOut(count, workers int, do func(int)) {
	var taken atomic.Int64
	var group sync.WaitGroup
	for range workers {
		group.Add(1)
		go func() {
			defer group.Done()
			for i := int(taken.Add(1)) - 1; i < count; i = int(taken.Add(1)) - 1 {
				do(i)
			}
		}()
	}
	group.Wait()
}
