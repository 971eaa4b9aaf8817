package wal

import (
	"slices"

	"synod/api"
	"synod/disk"
	"synod/frame"
)

// open reads what the disk has, or makes a first segment; true: it was repaired.
func (w *Wal) open() bool {
	numbers := numbersOn(w.disk)
	if len(numbers) == 0 {
		w.begin(1)
		return false
	}
	sound(numbers[len(numbers)-1]-numbers[0] == len(numbers)-1)
	repaired := false
	for i, number := range numbers {
		payloads, torn := w.load(number, i == len(numbers)-1)
		w.read(payloads)
		repaired = repaired || torn
	}
	if w.lastSegment().bytes == 0 {
		w.mend()
		repaired = true
	}
	w.sync()
	return repaired
}

// numbersOn tells the numbers of a disk's segments, rising.
func numbersOn(d *disk.Disk) []int {
	var numbers []int
	for _, name := range d.List() {
		if n, ok := Number(name); ok {
			numbers = append(numbers, n)
		}
	}
	slices.Sort(numbers)
	return numbers
}

// load takes up a segment: the payloads of its whole frames, and whether it was torn behind them. The last one alone may
// have been torn, and may be empty: each other one was synced ahead of the one behind it.
func (w *Wal) load(number int, last bool) ([][]byte, bool) {
	b, err := w.disk.Read(nameOf(number))
	must(err)
	payloads, whole, err := frame.All(b)
	torn := err != api.OK
	sound(last || !torn && len(payloads) > 0)
	if torn {
		must(w.disk.Cut(nameOf(number), whole))
	}
	w.segments = append(w.segments, segment{number, whole})
	return payloads, torn
}

// read takes the records of the segment that was taken up last.
func (w *Wal) read(payloads [][]byte) {
	for i, payload := range payloads {
		x, ok := recordOf(payload, w.lastSegment().number)
		sound(ok && (x.kind == headKind) == (i == 0))
		if x.kind == headKind {
			w.readHead(x)
		}
		sound(w.log.take(x))
	}
}

// readHead begins the view with what the first segment's head says; each other head repeats what was read ahead of it.
func (w *Wal) readHead(x record) {
	if len(w.segments) == 1 {
		w.log.view = View{State: x.state, Base: x.index, BaseTerm: x.term}
		return
	}
	index, term := w.log.last()
	sound(x.state == w.log.view.State && x.index == index && x.term == term)
}

// mend takes a last segment without a whole frame away, or begins it anew, if there is no other one.
func (w *Wal) mend() {
	end := len(w.segments) - 1
	if end > 0 {
		must(w.disk.Remove(w.segments[end].name()))
		w.segments = w.segments[:end]
		return
	}
	sound(w.segments[end].number == 1)
	w.putHead()
}
