package raftlog_test

import (
	"testing"

	"synod/api"
	"synod/raftlog"
)

// notAppended holds that Append answers this error, nothing beside it, and changes nothing.
func notAppended(t *testing.T, l *raftlog.Log, term, kind int, data []byte, want api.Errno) {
	t.Helper()
	before := whole(t, l)
	if n, e := l.Append(term, kind, data); n != 0 || e != want {
		t.Errorf("Append(%d, %d, %d bytes): %d, %d; not %d", term, kind, len(data), n, e, want)
	}
	look(t, l, before)
}

// appended holds that Append answers this index.
func appended(t *testing.T, l *raftlog.Log, term, kind int, data string, want int) {
	t.Helper()
	if n, e := l.Append(term, kind, []byte(data)); n != want || e != api.OK {
		t.Errorf("Append(%d, %d, %.20s): %d, %d; not %d", term, kind, data, n, e, want)
	}
}

func TestP8_3_Append(t *testing.T) {
	l := begun(t)
	appended(t, l, 2, api.ECommand, "d", 6)
	appended(t, l, 2, api.EEmpty, "", 7)
	appended(t, l, 9, api.ECommand, "", 8)
	appended(t, l, top, api.ECommand, "e", 9)
	appended(t, l, top, api.EEmpty, "", 10)
	look(t, l, "2 1 ; 3/1=a 4/2=b 5/2=c 6/2=d 7/2 8/9= 9/4611686018427387904=e 10/4611686018427387904 ; 5 5 3 2 2")
	l = made(t, 0, 0, 0)
	appended(t, l, 1, api.EEmpty, "", 1)
	look(t, l, "0 0 ; 1/1 ; 0 0 0 0 0")
	l = made(t, 7, 3, 0)
	appended(t, l, 3, api.ECommand, string(make([]byte, api.MaxData)), 8)
	if m, e := l.Entries(8, 1); e != api.OK || len(m[0].Data) != api.MaxData {
		t.Error("its data isn't whole")
	}
}

func TestP8_3_Terms(t *testing.T) {
	for _, l := range []*raftlog.Log{begun(t), made(t, 9, 2, 0)} {
		for _, term := range append(far(), 0, 1) {
			notAppended(t, l, term, api.ECommand, []byte("x"), api.ErrRange)
			// It goes ahead of codec's errors.
			notAppended(t, l, term, 2, nil, api.ErrRange)
			notAppended(t, l, term, api.EEmpty, []byte("x"), api.ErrRange)
			notAppended(t, l, term, api.ECommand, make([]byte, api.MaxData+1), api.ErrRange)
		}
	}
	l := made(t, 0, 0, 0)
	for _, term := range append(far(), 0) {
		notAppended(t, l, term, api.EEmpty, nil, api.ErrRange)
	}
	appended(t, l, 5, api.EEmpty, "", 1)
	notAppended(t, l, 4, api.EEmpty, nil, api.ErrRange)
	appended(t, l, 5, api.EEmpty, "", 2)
	// The term of a base that stands for all counts too.
	l = made(t, 4, 7, 0)
	notAppended(t, l, 6, api.EEmpty, nil, api.ErrRange)
	appended(t, l, 7, api.EEmpty, "", 5)
}

func TestP8_3_WrongEntries(t *testing.T) {
	l := begun(t)
	long := make([]byte, api.MaxData+1)
	for _, kind := range append(far(), 2, 3) {
		notAppended(t, l, 2, kind, nil, api.ErrKind)
		notAppended(t, l, 2, kind, long, api.ErrKind)
	}
	notAppended(t, l, 2, api.ECommand, long, api.ErrLong)
	notAppended(t, l, 2, api.EEmpty, long, api.ErrLong)
	notAppended(t, l, 2, api.EEmpty, long[1:], api.ErrForm)
	notAppended(t, l, 2, api.EEmpty, long[:1], api.ErrForm)
	look(t, l, begunWhole)
}

func TestP8_3_MaxIndex(t *testing.T) {
	l := made(t, top-2, 3, 0)
	appended(t, l, 3, api.ECommand, "y", top-1)
	appended(t, l, 3, api.ECommand, "z", top)
	for _, x := range []*raftlog.Log{l, made(t, top, 3, 0), made(t, top-1, 3, 0, of(top, 3)...)} {
		notAppended(t, x, 3, api.ECommand, nil, api.ErrLimit)
		// It goes ahead of all others.
		notAppended(t, x, 1, api.ECommand, nil, api.ErrLimit)
		notAppended(t, x, -1, 7, nil, api.ErrLimit)
		notAppended(t, x, 3, api.EEmpty, []byte("x"), api.ErrLimit)
	}
	full := made(t, top-api.MaxLog, 3, 0, many(api.MaxLog, 3, top-api.MaxLog+1)...)
	notAppended(t, full, 3, api.ECommand, nil, api.ErrLimit)
}

func TestP8_3_MaxLog(t *testing.T) {
	l := made(t, 5, 3, api.MaxLog, many(api.MaxLog-1, 3, 6)...)
	appended(t, l, 3, api.EEmpty, "", 5+api.MaxLog)
	notAppended(t, l, 3, api.EEmpty, nil, api.ErrFull)
	// It goes ahead of the term, and of codec's errors.
	notAppended(t, l, 2, api.EEmpty, nil, api.ErrFull)
	notAppended(t, l, top+1, 9, nil, api.ErrFull)
	notAppended(t, l, 3, api.EEmpty, []byte("x"), api.ErrFull)
	// Where some go there is room again.
	l.Next(2)
	l.Applied(7)
	is(t, l.Compact(7), api.OK)
	appended(t, l, 3, api.EEmpty, "", 6+api.MaxLog)
	appended(t, l, 4, api.EEmpty, "", 7+api.MaxLog)
	notAppended(t, l, 4, api.EEmpty, nil, api.ErrFull)
	is(t, l.Len(), api.MaxLog)
}
