package frame_test

import (
	"bytes"
	"math/rand/v2"
	"slices"
	"testing"

	"synod/api"
	"synod/frame"
)

// anyPayloads are up to six payloads, most of them short.
func anyPayloads(pick *rand.Rand) [][]byte {
	var list [][]byte
	for range pick.IntN(7) {
		list = append(list, anyBytes(pick, pick.IntN(1<<pick.IntN(7))))
	}
	return list
}

func TestP2_7_ThereAndBack(t *testing.T) {
	pick := rand.New(rand.NewPCG(2, 7))
	check := func(payloads [][]byte) {
		b, e := frame.Join(payloads)
		if e != api.OK {
			t.Fatalf("Join: %d", e)
		}
		back, n, e := frame.All(b)
		if !slices.Equal(texts(back), texts(payloads)) || n != len(b) || e != api.OK {
			t.Fatalf("All: %d payloads of %d, %d bytes of %d, %d", len(back), len(payloads), n, len(b), e)
		}
		for _, p := range payloads {
			f, e := frame.Put(p)
			if e != api.OK {
				t.Fatalf("Put: %d", e)
			}
			if q, e := frame.One(f); !bytes.Equal(q, p) || e != api.OK {
				t.Fatalf("One: %x, %d; not %x", brief(q), e, brief(p))
			}
		}
	}
	for range 2000 {
		check(anyPayloads(pick))
	}
	check([][]byte{anyBytes(pick, api.MaxFrame), nil, anyBytes(pick, api.MaxFrame-1)})
}

func TestP2_8_Torn(t *testing.T) {
	pick := rand.New(rand.NewPCG(2, 8))
	for range 200 {
		payloads := anyPayloads(pick)
		b, _ := frame.Join(payloads)
		whole, end := 0, 0
		for n := range len(b) + 1 {
			for whole < len(payloads) && end+8+len(payloads[whole]) <= n {
				end += 8 + len(payloads[whole])
				whole++
			}
			want := api.ErrShort
			if end == n {
				want = api.OK
			}
			got, count, e := frame.All(b[:n])
			if !slices.Equal(texts(got), texts(payloads[:whole])) || count != end || e != want {
				t.Fatalf("the front of %d bytes: %d payloads, %d, %d; not %d, %d, %d", n, len(got), count, e, whole, end, want)
			}
		}
	}
}

func TestP2_9_Spoilt(t *testing.T) {
	pick := rand.New(rand.NewPCG(2, 9))
	for n := range 80 {
		b, _ := frame.Put(anyBytes(pick, n))
		for bit := range 8 * len(b) {
			p, e := frame.One(turned(b, bit/8, 1<<(bit%8)))
			if e == api.OK || len(p) != 0 {
				t.Errorf("%d bytes, bit %d: %x, %d", n, bit, p, e)
			}
			if bit >= 32 && e != api.ErrSum {
				t.Errorf("%d bytes, bit %d, in the sum or behind it: %d", n, bit, e)
			}
		}
	}
	b, _ := frame.Put(anyBytes(pick, api.MaxFrame))
	for bit := 0; bit < 8*len(b); bit += 1 + bit*bit/64 {
		if p, e := frame.One(turned(b, bit/8, 1<<(bit%8))); e == api.OK || len(p) != 0 {
			t.Errorf("the longest, bit %d: %x, %d", bit, brief(p), e)
		}
	}
}

func TestP2_10_Behind(t *testing.T) {
	pick := rand.New(rand.NewPCG(2, 10))
	for range 2000 {
		payload := anyBytes(pick, pick.IntN(40))
		ahead, behind := anyBytes(pick, pick.IntN(20)), anyBytes(pick, pick.IntN(20))
		b, _ := frame.Put(payload)
		p, n, e := frame.Get(join(ahead, b, behind), len(ahead))
		if !bytes.Equal(p, payload) || n != len(b) || e != api.OK {
			t.Fatalf("%x between %x and %x: %x, %d, %d", b, ahead, behind, p, n, e)
		}
	}
	for _, behind := range []string{"\x00", "\xff\xff\xff\xff", "\x00\x00\x00\x00\xc7\x4b\x67\x48"} {
		if p, n, e := frame.Get(join(right("ab"), []byte(behind)), 0); string(p) != "ab" || n != 10 || e != api.OK {
			t.Errorf("ahead of %x: %s, %d, %d", behind, p, n, e)
		}
	}
}

// gone asks Get one behind the other: the payloads, and the place where it stops.
func gone(b []byte) ([][]byte, int, api.Errno) {
	var list [][]byte
	at := 0
	for at < len(b) {
		p, n, e := frame.Get(b, at)
		if e != api.OK {
			return list, at, e
		}
		list = append(list, p)
		at += n
	}
	return list, at, api.OK
}

func TestP2_10_CountIsWhereGetStops(t *testing.T) {
	pick := rand.New(rand.NewPCG(10, 2))
	check := func(b []byte) {
		want, end, f := gone(b)
		if got, n, e := frame.All(b); !slices.Equal(texts(got), texts(want)) || n != end || e != f {
			t.Fatalf("All(%x) = %d payloads, %d, %d; not %d, %d, %d", brief(b), len(got), n, e, len(want), end, f)
		}
	}
	for _, x := range rows() {
		check(x.b)
	}
	for range 5000 {
		b, _ := frame.Join(anyPayloads(pick))
		for range pick.IntN(3) {
			if len(b) > 0 {
				b = turned(b, pick.IntN(len(b)), byte(pick.IntN(256)))
			}
		}
		check(join(b[:len(b)-min(len(b), pick.IntN(4))], anyBytes(pick, pick.IntN(2)*pick.IntN(12))))
	}
}
