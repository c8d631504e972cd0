// Package tally: sums of the numbers in many messages.
package tally

import (
	"sync"
	"sync/atomic"

	"sluice/api"
	"sluice/describe"
	"sluice/values"
)

// Messages tells the sums of the numbers in messages of a type, sorted by
// their paths, and how many are no such messages. Which worker gets a message
// is left to chance: each adds up on its own, and sums come out the same in
// whatever order they are put together.
func Messages(of *describe.Type, messages []string, workers int) ([]api.Sum, int) {
	handed := make(chan string)
	found := make([]sums, workers)
	var refused atomic.Int64
	var all sync.WaitGroup
	for i := range found {
		found[i] = sums{}
		all.Add(1)
		go func() {
			defer all.Done()
			found[i].addMessages(of, handed, &refused)
		}()
	}
	for _, message := range messages {
		handed <- message
	}
	close(handed)
	all.Wait()
	return together(found).sorted(), int(refused.Load())
}

func (s sums) addMessages(of *describe.Type, handed <-chan string, refused *atomic.Int64) {
	for message := range handed {
		v, errno, _ := values.FromMessage(of, message)
		if errno != api.OK {
			refused.Add(1)
			continue
		}
		v.Numbers(s.addNumber)
	}
}
