package wal

import "synod/api"

// failure is an error on its way from within to the face.
type failure struct{ err api.Errno }

// must gives up at an error.
func must(err api.Errno) {
	if err != api.OK {
		panic(failure{err})
	}
}

// sound gives up where what was read isn't what a wal has written.
func sound(ok bool) {
	if !ok {
		must(api.ErrCorrupt)
	}
}

// face does some work, and tells the error that it gave up at. A panic of any other kind is none of its own, and goes on.
func face(work func()) (err api.Errno) {
	defer func() {
		switch x := recover().(type) {
		case nil:
		case failure:
			err = x.err
		default:
			panic(x)
		}
	}()
	work()
	return api.OK
}
