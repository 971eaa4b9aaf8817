package disk

import "synod/api"

// Each write asks for its errors in the order in which they are told; whether it is the armed one is asked last, and
// once, since it is counted there.

// Create makes an empty file.
func (d *Disk) Create(name string) api.Errno {
	switch {
	case d.down:
		return api.ErrDown
	case !isName(name):
		return api.ErrName
	case d.Has(name):
		return api.ErrThere
	case len(d.files) >= api.MaxFiles:
		return api.ErrFull
	case d.fails():
		return api.ErrDown
	}
	d.files[name] = &file{}
	return api.OK
}

// Append lays bytes at a file's end.
func (d *Disk) Append(name string, b []byte) api.Errno {
	f, ok := d.files[name]
	switch {
	case d.down:
		return api.ErrDown
	case !ok:
		return api.ErrNone
	case len(b) > api.MaxDisk-d.Size():
		return api.ErrFull
	}
	d.last = f
	if d.fails() {
		f.data = append(f.data, b[:len(b)/2]...)
		return api.ErrDown
	}
	f.data = append(f.data, b...)
	return api.OK
}

// Sync makes a file's bytes durable.
func (d *Disk) Sync(name string) api.Errno {
	f, ok := d.files[name]
	switch {
	case d.down:
		return api.ErrDown
	case !ok:
		return api.ErrNone
	case d.fails():
		return api.ErrDown
	}
	f.synced = len(f.data)
	return api.OK
}

// Cut leaves a file's first bytes.
func (d *Disk) Cut(name string, n int) api.Errno {
	f, ok := d.files[name]
	switch {
	case d.down:
		return api.ErrDown
	case !ok:
		return api.ErrNone
	case n < 0 || n > len(f.data):
		return api.ErrRange
	case d.fails():
		return api.ErrDown
	}
	f.data = f.data[:n]
	f.synced = min(f.synced, n)
	return api.OK
}

// Rename calls a file otherwise.
func (d *Disk) Rename(from, to string) api.Errno {
	f, ok := d.files[from]
	switch {
	case d.down:
		return api.ErrDown
	case !ok:
		return api.ErrNone
	case !isName(to):
		return api.ErrName
	case d.fails():
		return api.ErrDown
	}
	if from != to {
		d.drop(to)
		delete(d.files, from)
		d.files[to] = f
	}
	return api.OK
}

// Remove takes a file away.
func (d *Disk) Remove(name string) api.Errno {
	switch {
	case d.down:
		return api.ErrDown
	case !d.Has(name):
		return api.ErrNone
	case d.fails():
		return api.ErrDown
	}
	d.drop(name)
	return api.OK
}

// drop takes away the file of that name, if there is one; it isn't the one appended to last any more.
func (d *Disk) drop(name string) {
	f, ok := d.files[name]
	if ok && f == d.last {
		d.last = nil
	}
	delete(d.files, name)
}
