package codec_test

import (
	"fmt"
	"testing"

	"synod/api"
	"synod/codec"
)

// unread: Get answers the error, and nothing beside it.
func unread[T any](t *testing.T, c codec.Codec[T], name string, b []byte, want api.Errno) {
	t.Helper()
	var none T
	x, e := c.Get(b)
	if e != want || want != api.OK && say(x) != say(none) {
		t.Errorf("%T, %s: %s, %d, not %d: %s", c, name, brief(say(x)), e, want, brief(fmt.Sprintf("%x", b)))
	}
}

type wrongText struct {
	name string
	b    []byte
	e    api.Errno
}

func tryWrongTexts[T any](t *testing.T, c codec.Codec[T], list []wrongText) {
	t.Helper()
	for _, x := range list {
		unread(t, c, x.name, x.b, x.e)
	}
}

// over9 is a number of nine bytes above MaxIndex.
func over9() []byte { return []byte{0x80, 0x80, 0x80, 0x80, 0x80, 0x80, 0x80, 0x80, 0x41} }

func TestP3_1_WrongTexts(t *testing.T) {
	tryWrongTexts(t, entries, []wrongText{
		{"none", nil, api.ErrShort},
		{"a number that ends too early", []byte{1, 0x80}, api.ErrShort},
		{"a number in another form", []byte{1, 0x80, 0, 1, 0}, api.ErrForm},
		{"a number above MaxIndex", join([]byte{1}, over9(), []byte{0, 0}), api.ErrRange},
		{"no data", []byte{1, 1, 1}, api.ErrShort},
		{"fewer data", []byte{1, 1, 1, 2, 'a'}, api.ErrShort},
		{"data above the limit, and fewer", []byte{1, 1, 1, 0x81, 0x20, 'a'}, api.ErrLong},
		{"data above the limit", join([]byte{1, 1, 1, 0x81, 0x20}, many(api.MaxData+1)), api.ErrLong},
		{"a byte behind", []byte{1, 1, 0, 0, 0}, api.ErrLong},
		{"out of range", []byte{0, 1, 0, 0}, api.ErrRange},
		{"out of range", []byte{1, 0, 0, 0}, api.ErrRange},
		{"another kind", []byte{1, 1, 2, 0}, api.ErrKind},
		{"an empty one with data", []byte{1, 1, 0, 1, 'a'}, api.ErrForm},
		{"out of range, and fewer data", []byte{0, 1, 0, 1}, api.ErrShort},
		{"another kind, and a byte behind", []byte{1, 1, 2, 0, 0}, api.ErrLong},
		{"another kind, and out of range", []byte{1, 0, 2, 0}, api.ErrRange},
	})
	tryWrongTexts(t, states, []wrongText{
		{"none", []byte{}, api.ErrShort},
		{"too short", []byte{1, 0}, api.ErrShort},
		{"a number in another form", []byte{1, 0, 0x81, 0}, api.ErrForm},
		{"a number above MaxIndex", join([]byte{0, 1}, over9()), api.ErrRange},
		{"a byte behind", []byte{1, 0, 0, 0}, api.ErrLong},
		{"a vote in no term, and a byte behind", []byte{0, 1, 0, 0}, api.ErrLong},
		{"a vote above MaxNodes", []byte{1, 8, 0}, api.ErrRange},
		{"a vote in no term", []byte{0, 1, 0}, api.ErrForm},
		{"a vote above MaxNodes in no term", []byte{0, 8, 0}, api.ErrRange},
	})
	tryWrongTexts(t, snaps, []wrongText{
		{"none", nil, api.ErrShort},
		{"too short", []byte{0, 0}, api.ErrShort},
		{"fewer data", []byte{1, 1, 1}, api.ErrShort},
		{"no index, fewer data", []byte{0, 1, 1}, api.ErrShort},
		{"data above the limit, and fewer", []byte{1, 1, 0x81, 0x80, 0x20}, api.ErrLong},
		{"data above the limit", join([]byte{1, 1, 0x81, 0x80, 0x20}, many(api.MaxSnap+1)), api.ErrLong},
		{"none, with data", []byte{0, 0, 1, 1}, api.ErrRange},
		{"no index", []byte{0, 1, 0}, api.ErrRange},
		{"no term", []byte{1, 0, 0}, api.ErrRange},
		{"a byte behind none", []byte{0, 0, 0, 0}, api.ErrLong},
		{"a number in another form", []byte{0x80, 0, 0, 0}, api.ErrForm},
		{"a number above MaxIndex", join(over9(), []byte{1, 0}), api.ErrRange},
	})
	tryWrongTexts(t, commands, []wrongText{
		{"none", nil, api.ErrShort},
		{"no old", []byte{4, 1, 1, 1, 'k', 0}, api.ErrShort},
		{"another op, too short", []byte{1, 1, 1, 1, 'k', 0}, api.ErrShort},
		{"another op, a byte behind", []byte{1, 1, 1, 1, 'k', 0, 0, 0}, api.ErrLong},
		{"another op", []byte{1, 1, 1, 1, 'k', 0, 0}, api.ErrKind},
		{"another op", []byte{5, 0, 1, 1, 'k', 0, 0}, api.ErrKind},
		{"no client", []byte{2, 0, 1, 1, 'k', 0, 0}, api.ErrRange},
		{"no seq, no key", []byte{2, 1, 0, 0, 0, 0}, api.ErrRange},
		{"no key", []byte{2, 1, 1, 0, 0, 0}, api.ErrForm},
		{"a put with old", []byte{2, 1, 1, 1, 'k', 0, 1, 'o'}, api.ErrForm},
		{"a delete with a value", []byte{3, 1, 1, 1, 'k', 1, 'v', 0}, api.ErrForm},
		{"a key above the limit", join([]byte{2, 1, 1, 65}, many(65), []byte{0, 0}), api.ErrLong},
		{"a key above the limit, and fewer", []byte{2, 1, 1, 65}, api.ErrLong},
		{"a value above the limit", join([]byte{2, 1, 1, 1, 'k', 0x81, 8}, many(1025), []byte{0}), api.ErrLong},
		{"a value above the limit, and fewer", []byte{2, 1, 1, 1, 'k', 0x81, 8}, api.ErrLong},
		{"old above the limit", join([]byte{4, 1, 1, 1, 'k', 0, 0x81, 8}, many(1025)), api.ErrLong},
		{"old above the limit, and fewer", []byte{4, 1, 1, 1, 'k', 0, 0x81, 8}, api.ErrLong},
		{"fewer of a key, another op", []byte{9, 1, 1, 2, 'k'}, api.ErrShort},
		{"a number above MaxIndex", join([]byte{2}, over9(), []byte{1, 1, 'k', 0, 0}), api.ErrRange},
	})
	tryWrongTexts(t, replies, []wrongText{
		{"none", nil, api.ErrShort},
		{"no value", []byte{1}, api.ErrShort},
		{"no code", []byte{0, 0}, api.ErrKind},
		{"another code", []byte{11, 0}, api.ErrKind},
		{"another code, too short", []byte{11, 1}, api.ErrShort},
		{"another code, a byte behind", []byte{11, 0, 0}, api.ErrLong},
		{"a value above the limit", join([]byte{1, 0x81, 8}, many(1025)), api.ErrLong},
		{"a value above the limit, and fewer", []byte{11, 0x81, 8}, api.ErrLong},
		{"a byte behind", []byte{1, 0, 0}, api.ErrLong},
	})
}

func TestP3_1_WrongMessageTexts(t *testing.T) {
	tryWrongTexts(t, messages, []wrongText{
		{"none", nil, api.ErrShort},
		{"a kind that ends too early", []byte{0x80}, api.ErrShort},
		{"a kind in another form", []byte{0x81, 0, 9, 9}, api.ErrForm},
		{"a kind above MaxIndex", over9(), api.ErrRange},
		{"the kind 0", []byte{0}, api.ErrKind},
		{"the kind 8", []byte{8}, api.ErrKind},
		{"the kind 8, and a number in another form", []byte{8, 0x80, 0}, api.ErrKind},
		{"the kind 128", []byte{0x80, 1}, api.ErrKind},
		{"the kind MaxIndex", top9(), api.ErrKind},
		{"a kind alone", []byte{1}, api.ErrShort},
		{"no term", []byte{6, 2, 1}, api.ErrShort},
		{"a sender out of range", []byte{6, 9, 1, 2, 4}, api.ErrRange},
		{"a sender out of range, and too short", []byte{6, 9, 1, 2}, api.ErrShort},
		{"a sender out of range, and a byte behind", []byte{6, 9, 1, 2, 4, 0}, api.ErrLong},
		{"from is to", []byte{6, 1, 1, 2, 4}, api.ErrForm},
		{"from is to, no term", []byte{6, 1, 1, 0, 4}, api.ErrRange},
		{"another bool", []byte{2, 2, 1, 2, 2}, api.ErrForm},
		{"another bool within", []byte{4, 2, 1, 2, 5, 2, 3}, api.ErrForm},
		{"another bool, too short", []byte{4, 2, 1, 2, 5, 2}, api.ErrForm},
		{"a hint without a reject", []byte{4, 2, 1, 2, 5, 0, 3}, api.ErrForm},
		{"a vote without a term", []byte{1, 1, 2, 4, 7, 0}, api.ErrForm},
		{"a vote of its own term", []byte{1, 1, 2, 4, 7, 4}, api.ErrForm},
		{"65 entries", []byte{3, 2, 1, 2, 1, 1, 1, 0x41}, api.ErrLong},
		{"65 entries, a sender out of range", []byte{3, 0, 1, 2, 1, 1, 1, 0x41}, api.ErrLong},
		{"65 entries, behind a number in another form", []byte{3, 2, 1, 2, 1, 0x81, 0, 1, 0x41}, api.ErrForm},
		{"64 entries, none there", []byte{3, 2, 1, 2, 1, 1, 1, 0x40}, api.ErrShort},
		{"MaxIndex entries", join([]byte{3, 2, 1, 2, 1, 1, 1}, top9()), api.ErrLong},
		{"their number ends too early", []byte{3, 2, 1, 2, 1, 1, 1, 0xc1}, api.ErrShort},
		{"their number in another form", []byte{3, 2, 1, 2, 1, 1, 1, 0x80, 0}, api.ErrForm},
		{"their number above MaxIndex", join([]byte{3, 2, 1, 2, 1, 1, 1}, over9()), api.ErrRange},
		{"no number of entries", []byte{3, 2, 1, 2, 1, 1, 1}, api.ErrShort},
		{"an entry without bytes", []byte{3, 2, 1, 2, 1, 1, 1, 1, 0}, api.ErrShort},
		{"an entry of no term", []byte{3, 2, 1, 2, 1, 1, 1, 1, 4, 0, 2, 0, 0}, api.ErrRange},
		{"an entry of another kind", []byte{3, 2, 1, 2, 1, 1, 1, 1, 4, 2, 2, 2, 0}, api.ErrKind},
		{"an entry of no term, and then too short", []byte{3, 2, 1, 2, 1, 1, 1, 2, 4, 0, 2, 0, 0}, api.ErrRange},
		{"an entry of another kind, and then one of no term", []byte{3, 2, 1, 2, 1, 1, 1, 2, 4, 2, 2, 2, 0, 4, 0, 2, 0, 0}, api.ErrKind},
		{"an entry of another kind, and a sender out of range", []byte{3, 0, 1, 2, 1, 1, 1, 1, 4, 2, 2, 2, 0}, api.ErrKind},
		{"an entry of another kind, behind a number in another form", []byte{3, 0x82, 0, 1, 2, 1, 1, 1, 1, 4, 2, 2, 2, 0}, api.ErrForm},
		{"an entry that ends too early", []byte{3, 2, 1, 2, 1, 1, 1, 1, 3, 2, 2, 0}, api.ErrShort},
		{"an entry that ends too early, though bytes are there", []byte{3, 2, 1, 2, 1, 1, 1, 1, 3, 2, 2, 0, 0}, api.ErrShort},
		{"a byte left in an entry", []byte{3, 2, 1, 2, 1, 1, 1, 1, 5, 2, 2, 0, 0, 0}, api.ErrLong},
		{"a byte left in an entry of no term", []byte{3, 2, 1, 2, 1, 1, 1, 1, 5, 0, 2, 0, 0, 0}, api.ErrLong},
		{"an entry's bytes end too early", []byte{3, 2, 1, 2, 1, 1, 1, 1, 4, 2, 2, 0}, api.ErrShort},
		{"an entry's length in another form", []byte{3, 2, 1, 2, 1, 1, 1, 1, 0x84, 0, 2, 2, 0, 0}, api.ErrForm},
		{"an entry with data above the limit", join([]byte{3, 2, 1, 2, 1, 1, 1, 1}, sized(join([]byte{2, 2, 1, 0x81, 0x20}, many(4097))...)), api.ErrLong},
		{"an entry's bytes at the limit, of no form", join([]byte{3, 2, 1, 2, 1, 1, 1, 1, 0x80, 0x40, 2, 0x82, 0}, many(8189)), api.ErrForm},
		{"an entry's bytes above the limit, of no form", join([]byte{3, 2, 1, 2, 1, 1, 1, 1, 0x81, 0x40, 2, 0x82, 0}, many(8190)), api.ErrLong},
		{"an entry's bytes above the limit, and fewer", []byte{3, 2, 1, 2, 1, 1, 1, 1, 0x81, 0x40}, api.ErrLong},
		{"an entry's bytes at the limit, and fewer", []byte{3, 2, 1, 2, 1, 1, 1, 1, 0x80, 0x40}, api.ErrShort},
		{"an entry elsewhere", []byte{3, 2, 1, 2, 1, 1, 1, 1, 4, 2, 3, 0, 0}, api.ErrForm},
		{"an entry elsewhere, and a byte behind", []byte{3, 2, 1, 2, 1, 1, 1, 1, 4, 2, 3, 0, 0, 0}, api.ErrLong},
		{"fewer entries than their number", []byte{3, 2, 1, 2, 1, 1, 1, 2, 4, 2, 2, 0, 0}, api.ErrShort},
		{"more entries than their number", []byte{3, 2, 1, 2, 1, 1, 1, 0, 4, 2, 2, 0, 0}, api.ErrLong},
		{"a snapshot that is none", []byte{7, 2, 1, 2, 3, 0, 0, 0}, api.ErrForm},
		{"a snapshot that is none, and a byte behind", []byte{7, 2, 1, 2, 3, 0, 0, 0, 0}, api.ErrLong},
		{"a snapshot without bytes", []byte{7, 2, 1, 2, 0}, api.ErrShort},
		{"a snapshot of no index", []byte{7, 2, 1, 2, 3, 0, 1, 0}, api.ErrRange},
		{"a snapshot of no index, and a byte behind", []byte{7, 2, 1, 2, 3, 0, 1, 0, 0}, api.ErrRange},
		{"a snapshot of a number in another form", []byte{7, 0, 1, 2, 4, 0x81, 0, 1, 0}, api.ErrForm},
		{"a snapshot of a number in another form, behind one that is above MaxIndex", join([]byte{7, 2, 1}, over9(), []byte{4, 0x81, 0, 1, 0}), api.ErrRange},
		{"a byte left in a snapshot", []byte{7, 2, 1, 2, 4, 1, 1, 0, 0}, api.ErrLong},
		{"a snapshot of a later term", []byte{7, 2, 1, 2, 3, 1, 3, 0}, api.ErrForm},
		{"a snapshot's bytes end too early", []byte{7, 2, 1, 2, 4, 1, 1, 0}, api.ErrShort},
		{"a snapshot with data above the limit", join([]byte{7, 2, 1, 2}, sized(join([]byte{1, 1, 0x81, 0x80, 0x20}, many(api.MaxSnap+1))...)), api.ErrLong},
		{"a snapshot's bytes at the limit, of no form", join([]byte{7, 2, 1, 2, 0x80, 0x80, 0x40, 0x82, 0}, many(1<<20-2)), api.ErrForm},
		{"a snapshot's bytes above the limit, of no form", join([]byte{7, 2, 1, 2, 0x81, 0x80, 0x40, 0x82, 0}, many(1<<20-1)), api.ErrLong},
		{"a snapshot's bytes above the limit, and fewer", []byte{7, 2, 1, 2, 0x81, 0x80, 0x40}, api.ErrLong},
		{"no snapshot", []byte{7, 2, 1, 2}, api.ErrShort},
	})
}

// model reads by the words of chapter 1, and panics with the first error.
type model struct{ b []byte }

func (m *model) number() int {
	n := 0
	for i, c := range m.b {
		switch {
		case i == 9, i == 8 && c >= 0x80:
			panic(api.ErrForm)
		case c < 0x80 && c == 0 && i > 0:
			panic(api.ErrForm)
		case c < 0x80 && i == 8 && (c > 0x40 || c == 0x40 && n > 0):
			panic(api.ErrRange)
		}
		n += int(c%128) << (7 * i)
		if c < 0x80 {
			m.b = m.b[i+1:]
			return n
		}
	}
	panic(api.ErrShort)
}

func (m *model) bool() bool {
	n := m.number()
	if n > 1 {
		panic(api.ErrForm)
	}
	return n == 1
}

func (m *model) bytes(most int) []byte {
	n := m.number()
	if n > most {
		panic(api.ErrLong)
	}
	if n > len(m.b) {
		panic(api.ErrShort)
	}
	b := m.b[:n]
	m.b = m.b[n:]
	return b
}

func (m *model) entry() api.Entry {
	x := api.Entry{Term: m.number(), Index: m.number(), Kind: m.number(), Data: m.bytes(4096)}
	m.end(wrongEntry(x))
	return x
}

func (m *model) snap() api.Snap {
	x := api.Snap{Index: m.number(), Term: m.number(), Data: m.bytes(1 << 19)}
	m.end(wrongSnap(x))
	return x
}

func (m *model) message() api.Message {
	x := api.Message{Kind: m.number()}
	if x.Kind < 1 || x.Kind > 7 {
		panic(api.ErrKind)
	}
	x.From, x.To, x.Term = m.number(), m.number(), m.number()
	for _, field := range uses(x.Kind) {
		switch field {
		case 'i':
			x.Index = m.number()
		case 'l':
			x.LogTerm = m.number()
		case 'c':
			x.Commit = m.number()
		case 'h':
			x.Hint = m.number()
		case 'x':
			x.Ctx = m.number()
		case 'r':
			x.Reject = m.bool()
		case 'e':
			n := m.number()
			if n > 64 {
				panic(api.ErrLong)
			}
			for range n {
				x.Entries = append(x.Entries, (&model{m.bytes(8192)}).entry())
			}
		case 's':
			x.Snap = (&model{m.bytes(1 << 20)}).snap()
		}
	}
	m.end(wrongMessage(x))
	return x
}

// end: bytes that are left go ahead of what may not be.
func (m *model) end(e api.Errno) {
	if len(m.b) > 0 {
		panic(api.ErrLong)
	}
	if e != api.OK {
		panic(e)
	}
}

// byModel is what the model reads, in words, and its error.
func byModel[T any](read func(*model) T, b []byte) (x T, e api.Errno) {
	defer func() {
		if wrong := recover(); wrong != nil {
			e = wrong.(api.Errno)
		}
	}()
	x = read(&model{b})
	return x, api.OK
}

// eachText hands over all texts of up to most bytes, behind a front.
func eachText(front, letters []byte, most int, do func(b []byte)) {
	do(front)
	if most == 0 {
		return
	}
	for _, c := range letters {
		eachText(append(front[:len(front):len(front)], c), letters, most-1, do)
	}
}

// tryAll holds a codec to the model at each text of few letters; it answers how many of them were read.
func tryAll[T any](t *testing.T, c codec.Codec[T], read func(*model) T, front, letters []byte, most int) int {
	t.Helper()
	count := 0
	eachText(front, letters, most, func(b []byte) {
		want, e := byModel(read, b)
		x, f := c.Get(b)
		if f != e || say(x) != say(want) {
			t.Errorf("%T of %x: %s, %d; not %s, %d", c, b, say(x), f, say(want), e)
		}
		if f == api.OK {
			count++
		}
	})
	return count
}

func TestP3_1_AllShortTexts(t *testing.T) {
	letters := []byte{0, 1, 2, 3, 0x81}
	if tryAll(t, entries, (*model).entry, nil, letters, 6) == 0 || tryAll(t, snaps, (*model).snap, nil, letters, 6) == 0 {
		t.Error("none was read")
	}
	if tryAll(t, messages, (*model).message, nil, []byte{0, 1, 2, 6, 8, 0x81}, 5) == 0 {
		t.Error("no message was read")
	}
	for kind := byte(api.MVote); kind <= api.MSnap; kind++ {
		if tryAll(t, messages, (*model).message, []byte{kind, 2, 1, 2}, letters, 5) == 0 {
			t.Errorf("none of kind %d was read", kind)
		}
	}
	for _, front := range [][]byte{{3, 2, 1, 2, 1, 1, 0, 1}, {3, 2, 1, 2, 1, 1, 0, 1, 4}, {3, 2, 1, 2, 1, 1, 0, 2, 4, 1, 2, 0, 0, 5}} {
		tryAll(t, messages, (*model).message, front, []byte{0, 1, 2, 3, 4, 0x82}, 5)
	}
}

// Each byte of a text in turn is another one: the model tells which error that is, if it is one.
func TestP3_1_SpoiltTexts(t *testing.T) {
	for _, x := range messageTexts() {
		for i := range min(len(x.b), 60) {
			b := append([]byte(nil), x.b...)
			for _, c := range []byte{0, 1, 2, 3, 4, 7, 8, 0x40, 0x41, 0x7f, 0x80, 0x81, 0xff} {
				b[i] = c
				_, want := byModel((*model).message, b)
				if y, e := (codec.Messages{}).Get(b); e != want {
					t.Errorf("%s, byte %d is %x: %s, %d, not %d", brief(say(x.x)), i, c, brief(say(y)), e, want)
				}
			}
		}
	}
}
