package codec

import (
	"synod/api"
	"synod/wire"
)

// putOne puts a thing's text as bytes. What it answers is the thing's own error: the writer keeps its own till it is done.
func putOne[T any](w *wire.Writer, c Codec[T], x T, size int) api.Errno {
	b, err := c.Put(x)
	if err == api.OK {
		w.Bytes(b, size)
	}
	return err
}

// putAll puts the number of things, and each one's text as bytes.
func putAll[T any](w *wire.Writer, c Codec[T], l []T, size int) api.Errno {
	w.Int(len(l))
	for _, x := range l {
		if err := putOne(w, c, x, size); err != api.OK {
			return err
		}
	}
	return api.OK
}

// getOne reads the bytes of a thing's text, and the thing of them.
func getOne[T any](r *wire.Reader, c Codec[T], size int) (T, api.Errno) {
	at := r.At()
	b := r.Bytes(size)
	if err := failure(r, at); err != api.OK {
		var none T
		return none, err
	}
	return c.Get(b)
}

// getAll reads the number of things, and then each one. The list grows as they come: the number alone is no reason to
// make room for them.
func getAll[T any](r *wire.Reader, c Codec[T], most, size int) ([]T, api.Errno) {
	n, err := getNumber(r)
	if err != api.OK {
		return nil, err
	}
	if n > most {
		return nil, api.ErrLong
	}
	var l []T
	for range n {
		x, err := getOne(r, c, size)
		if err != api.OK {
			return nil, err
		}
		l = append(l, x)
	}
	return l, api.OK
}

// getNumber reads a number that is judged as soon as it is read.
func getNumber(r *wire.Reader) (int, api.Errno) {
	at := r.At()
	n := r.Int()
	return n, failure(r, at)
}

// failure is the error of a reader that was to read what stands at a place. Done alone doesn't tell it from bytes that
// are left; but a reader stays at its error, and whatever it reads has a byte at least.
func failure(r *wire.Reader, at int) api.Errno {
	if r.At() > at {
		return api.OK
	}
	return r.Done()
}
