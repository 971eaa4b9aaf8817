package run_test

import (
	"runtime"
	"strings"
	"testing"

	"synod/api"
	"synod/node"
	"synod/run"
)

// goroutines is how many there are now that the package has made.
func goroutines() int {
	b := make([]byte, 1<<20)
	return strings.Count(string(b[:runtime.Stack(b, true)]), "created by synod/run.")
}

// most is how many of them were seen at a time while a thing was done.
func most(do func()) int {
	// One of a call ahead may be in its last step.
	for range 1000 {
		if goroutines() == 0 {
			break
		}
		runtime.Gosched()
	}
	done := make(chan struct{})
	go func() {
		do()
		close(done)
	}()
	n := 0
	for {
		select {
		case <-done:
			return n
		default:
			n = max(n, goroutines())
			runtime.Gosched() // there may be one processor alone
		}
	}
}

// seen is most of a thing that is done again and again, until so many were seen.
func seen(want int, do func()) int {
	n := 0
	for range 200 {
		if n = max(n, most(do)); n >= want {
			break
		}
	}
	return n
}

// busy is acts that take a while.
func busy(n int) []node.Act {
	acts := led()
	for i := range n {
		acts = append(acts, called(puts(i+1, "a", "x")))
		acts = append(acts, picks(5, 2, 6, 7, 1, 2, 8, 9, 1)...)
	}
	return acts
}

func TestP13_1_FourTasks(t *testing.T) {
	acts := busy(300)
	is(t, seen(4, func() { run.Play(opts(1, 1), nil, 0, acts) }), 4)
	is(t, most(func() { run.Play(opts(1, 1), nil, 0, acts) }) <= 4, true)
}

func TestP13_2_SoManyWorkers(t *testing.T) {
	acts := [][]node.Act{busy(100), busy(100), busy(100), busy(100), busy(100)}
	for _, workers := range []int{1, 2, 5} {
		crew := func() { run.Crew(opts(1, 5), make([][]api.File, 5), make([]int, 5), acts, workers) }
		is(t, seen(workers, crew), workers)
		is(t, most(crew) <= workers, true)
	}
}

// left is how often, of 100 times, something that the package has made was still there when a thing was done. The one that
// ends last lets the caller go on in its last step: with one processor it has ended then, but for rare chances.
func left(do func()) int {
	defer runtime.GOMAXPROCS(runtime.GOMAXPROCS(1))
	n := 0
	for range 100 {
		do()
		if goroutines() > 0 {
			n++
		}
	}
	return n
}

func TestP13_1_AllHaveEnded(t *testing.T) {
	o := opts(1, 1)
	o.Segment = 64
	wrong := opts(2, 1)
	ended := append(led(), stopped())
	for range 30 {
		ended = append(ended, picks(1, 6, 7, 8, 9)...)
	}
	for name, do := range map[string]func(){
		"nothing":       func() { run.Play(o, nil, 0, nil) },
		"never stopped": func() { run.Play(o, nil, 0, busy(3)) },
		"stopped":       func() { run.Play(o, nil, 0, append(busy(3), stopped())) },
		"ended":         func() { run.Play(o, nil, 0, ended) },
		"down":          func() { run.Play(o, crowd(api.MaxFiles-1), 0, busy(9)) },
		"wrong options": func() { run.Play(wrong, nil, 0, led()) },
		"wrong files":   func() { run.Play(o, crowd(api.MaxFiles+1), 0, led()) },
	} {
		if n := left(do); n > 10 {
			t.Errorf("%s: %d times not all have ended", name, n)
		}
	}
}

func TestP13_2_AllHaveEnded(t *testing.T) {
	none := make([][]api.File, 2)
	acts := [][]node.Act{busy(3), led()}
	for name, do := range map[string]func(){
		"one worker":     func() { run.Crew(opts(1, 2), none, []int{0, 0}, acts, 1) },
		"more than work": func() { run.Crew(opts(1, 2), none, []int{0, 0}, acts, 64) },
		"no nodes":       func() { run.Crew(opts(1, 2), nil, nil, nil, 64) },
		"an error":       func() { run.Crew(opts(1, 1), none, []int{0, 0}, acts, 3) },
		"too many":       func() { run.Crew(opts(1, 2), none, []int{0, 0}, acts, 65) },
	} {
		if n := left(do); n > 10 {
			t.Errorf("%s: %d times not all have ended", name, n)
		}
	}
}
