package codec

import "synod/api"

// Check tells whether it may be.
func (Messages) Check(x api.Message) api.Errno {
	switch {
	case !isKind(x.Kind):
		return api.ErrKind
	case !inRange(x):
		return api.ErrRange
	case x.From == x.To, !isBlank(unused(x)):
		return api.ErrForm
	}
	switch x.Kind {
	case api.MApp:
		return checkApp(x)
	case api.MVote:
		return formIf(x.LogTerm >= x.Term || !isPlace(x))
	case api.MAppAns:
		return formIf(x.Hint != 0 && !x.Reject)
	case api.MSnap:
		return checkSnap(x)
	}
	return api.OK
}

func isKind(kind int) bool { return within(kind, api.MVote, api.MSnap) }

func inRange(x api.Message) bool {
	if !within(x.From, 1, api.MaxNodes) || !within(x.To, 1, api.MaxNodes) || !within(x.Term, 1, api.MaxIndex) {
		return false
	}
	for _, n := range [...]int{x.Index, x.LogTerm, x.Commit, x.Hint, x.Ctx} {
		if !within(n, 0, api.MaxIndex) {
			return false
		}
	}
	return true
}

// unused is the message without what its kind uses.
func unused(x api.Message) api.Message {
	switch x.Kind {
	case api.MVote:
		x.Index, x.LogTerm = 0, 0
	case api.MVoteAns:
		x.Reject = false
	case api.MApp:
		x.Index, x.LogTerm, x.Commit, x.Entries = 0, 0, 0, nil
	case api.MAppAns:
		x.Index, x.Reject, x.Hint = 0, false, 0
	case api.MBeat:
		x.Commit, x.Ctx = 0, 0
	case api.MBeatAns:
		x.Ctx = 0
	case api.MSnap:
		x.Snap = api.Snap{}
	}
	return x
}

// isBlank tells whether nothing is said, beside what every message says.
func isBlank(x api.Message) bool {
	return x.Index == 0 && x.LogTerm == 0 && x.Commit == 0 && x.Hint == 0 && x.Ctx == 0 &&
		!x.Reject && len(x.Entries) == 0 && isNone(x.Snap)
}

// isPlace tells whether Index and LogTerm say a place in a log: its beginning has neither.
func isPlace(x api.Message) bool { return (x.Index == 0) == (x.LogTerm == 0) }

func checkApp(x api.Message) api.Errno {
	if len(x.Entries) > api.MaxEntries {
		return api.ErrLong
	}
	for _, entry := range x.Entries {
		if err := (Entries{}).Check(entry); err != api.OK {
			return err
		}
	}
	return formIf(x.LogTerm > x.Term || !isPlace(x) || !goOn(x))
}

// goOn tells whether the entries go on from the message's place, up to its term.
func goOn(x api.Message) bool {
	term := x.LogTerm
	for i, entry := range x.Entries {
		if entry.Index != x.Index+1+i || !within(entry.Term, term, x.Term) {
			return false
		}
		term = entry.Term
	}
	return true
}

func checkSnap(x api.Message) api.Errno {
	if err := (Snaps{}).Check(x.Snap); err != api.OK {
		return err
	}
	return formIf(isNone(x.Snap) || x.Snap.Term > x.Term)
}

func formIf(wrong bool) api.Errno {
	if wrong {
		return api.ErrForm
	}
	return api.OK
}
