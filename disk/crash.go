package disk

// Arm lets a write fail.
func (d *Disk) Arm(n int) { d.armed = max(n, 0) }

// Down tells whether it is down.
func (d *Disk) Down() bool { return d.down }

// Crash takes away what isn't durable.
func (d *Disk) Crash(keep int) {
	if d.last != nil {
		d.last.synced += min(max(keep, 0), len(d.last.data)-d.last.synced)
	}
	for _, f := range d.files {
		f.data = f.data[:f.synced]
	}
	d.last, d.armed, d.down = nil, 0, false
}

// fails counts a write that has no error of its own, and tells whether it is the armed one; then the disk is down.
func (d *Disk) fails() bool {
	if d.armed == 0 {
		return false
	}
	d.armed--
	d.down = d.armed == 0
	return d.down
}
