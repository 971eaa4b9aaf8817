package run

import (
	"sync"

	"synod/api"
	"synod/node"
)

// mostWorkers is how many workers may share nodes.
const mostWorkers = 64

// played is what the play of a node answered.
type played struct {
	told  []node.Told
	files []api.File
	err   api.Errno
}

// Crew plays several nodes.
func Crew(o node.Opts, files [][]api.File, draws []int, acts [][]node.Act, workers int) ([][]node.Told, [][]api.File, api.Errno) {
	if len(files) != len(acts) || len(draws) != len(acts) || workers < 1 || workers > mostWorkers {
		return nil, nil, api.ErrMany
	}
	plays := make([]played, len(acts))
	share(len(plays), workers, func(i int) {
		own := o
		own.Core.ID = i + 1
		told, left, err := node.Play(own, files[i], draws[i], acts[i])
		plays[i] = played{told, left, err}
	})
	return gather(plays)
}

// share lets workers do so many things, each once, and waits for them.
func share(things, workers int, do func(i int)) {
	next := make(chan int)
	var running sync.WaitGroup
	for range workers {
		running.Add(1)
		go func() {
			defer running.Done()
			for i := range next {
				do(i)
			}
		}()
	}
	for i := range things {
		next <- i
	}
	close(next)
	running.Wait()
}

// gather is what all plays answered, or the first error.
func gather(plays []played) ([][]node.Told, [][]api.File, api.Errno) {
	var told [][]node.Told
	var files [][]api.File
	for _, p := range plays {
		if p.err != api.OK {
			return nil, nil, p.err
		}
		told = append(told, p.told)
		files = append(files, p.files)
	}
	return told, files, api.OK
}
