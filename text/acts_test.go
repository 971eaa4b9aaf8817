package text_test

import (
	"fmt"
	"math/rand/v2"
	"strings"
	"testing"

	"synod/api"
	"synod/node"
	"synod/text"
	"synod/world"
)

// lines are lines of all kinds, and their acts.
func lines() map[string]world.Act {
	return map[string]world.Act{
		"tick 1 2":                 {Kind: world.WTick, Node: 1, N: 2},
		"tick 0 0":                 {Kind: world.WTick},
		"tick -1 -2":               {Kind: world.WTick, Node: -1, N: -2},
		"pick 3 notice":            {Kind: world.WPick, Node: 3, N: node.PNotice},
		"pick 3 work":              {Kind: world.WPick, Node: 3, N: node.PWork},
		"pick 3 inbox":             {Kind: world.WPick, Node: 3, N: node.PInbox},
		"pick 3 tick":              {Kind: world.WPick, Node: 3, N: node.PTick},
		"pick 3 call":              {Kind: world.WPick, Node: 3, N: node.PCall},
		"pick 3 write":             {Kind: world.WPick, Node: 3, N: node.PWrite},
		"pick 3 sync":              {Kind: world.WPick, Node: 3, N: node.PSync},
		"pick 3 apply":             {Kind: world.WPick, Node: 3, N: node.PApply},
		"pick 3 send":              {Kind: world.WPick, Node: 3, N: node.PSend},
		"deliver 4":                {Kind: world.WDeliver, N: 4},
		"drop 5":                   {Kind: world.WDrop, N: 5},
		"copy 6":                   {Kind: world.WCopy, N: 6},
		"spoil 7 8":                {Kind: world.WSpoil, N: 7, M: 8},
		"move 9 10":                {Kind: world.WMove, N: 9, M: 10},
		"link 1 2":                 {Kind: world.WLink, Node: 1, N: 2, M: 1},
		"cut 3 4":                  {Kind: world.WLink, Node: 3, N: 4},
		"crash 1 2":                {Kind: world.WCrash, Node: 1, N: 2},
		"start 1 2":                {Kind: world.WStart, Node: 1, N: 2},
		"arm 1 2":                  {Kind: world.WArm, Node: 1, N: 2},
		"stop 5":                   {Kind: world.WStop, Node: 5},
		"get 1 2 k":                {Kind: world.WCall, Client: 1, Node: 2, Op: api.OpGet, Key: "k"},
		"delete 1 2 k":             {Kind: world.WCall, Client: 1, Node: 2, Op: api.OpDelete, Key: "k"},
		"put 1 2 k v":              {Kind: world.WCall, Client: 1, Node: 2, Op: api.OpPut, Key: "k", Value: "v"},
		"swap 1 2 k o v":           {Kind: world.WCall, Client: 1, Node: 2, Op: api.OpSwap, Key: "k", Old: "o", Value: "v"},
		`swap -1 0 "" "" ""`:       {Kind: world.WCall, Client: -1, Op: api.OpSwap},
		`put 1 2 "#" "\x00 \""`:    {Kind: world.WCall, Client: 1, Node: 2, Op: api.OpPut, Key: "#", Value: "\x00 \""},
		"put 1 2 007 -0":           {Kind: world.WCall, Client: 1, Node: 2, Op: api.OpPut, Key: "007", Value: "-0"},
		"get 1 2 get":              {Kind: world.WCall, Client: 1, Node: 2, Op: api.OpGet, Key: "get"},
		"again 1 2":                {Kind: world.WAgain, Client: 1, Node: 2},
		"give 3":                   {Kind: world.WGive, Client: 3},
		"calm 1 2":                 {Kind: world.WCalm, Node: 1, N: 2},
		"drop 4611686018427387904": {Kind: world.WDrop, N: 1 << 62},
		"move -4611686018427387904 4611686018427387904": {Kind: world.WMove, N: -1 << 62, M: 1 << 62},
	}
}

func TestP17_2_EachLine(t *testing.T) {
	for s, a := range lines() {
		act(t, s, a)
	}
}

func TestP17_3_EachLine(t *testing.T) {
	for s, a := range lines() {
		line(t, a, s)
	}
}

// A first word is one of the table to the letter; this is told ahead of how many there are.
func TestP17_2_FirstWord(t *testing.T) {
	for _, s := range []string{"", " ", `""`, "#", "# tick 1 2", "world", "1", "-", "?", "op", "pick2", "calls", "history"} {
		noAct(t, s, api.ErrWord)
		noAct(t, s+" 1 2", api.ErrWord)
		noAct(t, s+" x x x x x x x", api.ErrWord)
	}
	for _, c := range table() {
		word := strings.Fields(c.line)[0]
		for _, s := range []string{strings.ToUpper(word), strings.ToUpper(word[:1]) + word[1:], word + "s", word[1:], word[:len(word)-1], word + ".", "-" + word, `"` + word + ` "`, `" ` + word + `"`, `"` + word + `\x00"`} {
			noAct(t, s, api.ErrWord)
			noAct(t, s+" 1 2", api.ErrWord)
			noAct(t, s+" 1 2 a b c", api.ErrWord)
		}
	}
	for _, word := range append(pickWords()[:3:3], "sync", "apply", "write", "send", "call", "key", "node") {
		if word != "tick" {
			noAct(t, word+" 1 2", api.ErrWord)
		}
	}
}

// Just as many words as the table says; this is told ahead of what they are.
func TestP17_2_HowManyWords(t *testing.T) {
	for _, c := range table() {
		names := strings.Fields(c.line)
		for n := range 9 {
			for _, word := range []string{"1", "x", `""`, "sync", "-", "01"} {
				s := names[0] + strings.Repeat(" "+word, n)
				want := api.ErrWords
				if n == len(names)-1 {
					_, want = modelParse(s)
				}
				if _, e := text.ParseAct(s); e != want || n != len(names)-1 && e != api.ErrWords {
					t.Errorf("%s: have %d; want %d", s, e, want)
				}
			}
		}
	}
}

// notNumbers are words that are no numbers.
func notNumbers() []string {
	return []string{
		`""`, `" "`, `"1 "`, `" 1"`, `"1\x00"`, `"\xd9\xa3"`, "-", "--1", "+", "+1", "+0", "-0", "00", "01", "007", "-01", "-00", "1-", "1+", "1.", "1.0", ".5", "1e3", "0x1", "0b1", "0o1", "1_0", "1,0", "a", "one", "1a", "a1", "#1", `\1`,
		"4611686018427387905", "-4611686018427387905", "9223372036854775807", "9223372036854775808", "-9223372036854775808", "-9223372036854775809",
		"18446744073709551615", "18446744073709551616", "18446744073709551617", "46116860184273879040", "99999999999999999999", "-99999999999999999999",
		"04611686018427387904", strings.Repeat("9", 4000), "1" + strings.Repeat("0", 4000), strings.Repeat("0", 4000) + "1",
	}
}

// Each place of a number, with each word that is none.
func TestP17_2_NoNumber(t *testing.T) {
	for _, c := range table() {
		names := strings.Fields(c.line)
		words := func() []string {
			l := []string{names[0]}
			for _, name := range names[1:] {
				l = append(l, map[string]string{"PICK": "sync", "key": "a", "old": "a", "value": "a"}[name])
				if l[len(l)-1] == "" {
					l[len(l)-1] = "1"
				}
			}
			return l
		}
		if _, e := text.ParseAct(strings.Join(words(), " ")); e != api.OK {
			t.Errorf("%v: %d", words(), e)
		}
		for i, name := range names[1:] {
			if isText(name) || name == "PICK" {
				continue
			}
			for _, word := range notNumbers() {
				l := words()
				l[1+i] = word
				noAct(t, strings.Join(l, " "), api.ErrNumber)
			}
			for word, n := range map[string]int{"0": 0, "-1": -1, "10": 10, "4611686018427387904": 1 << 62, "-4611686018427387904": -1 << 62, "4611686018427387903": 1<<62 - 1} {
				l := words()
				l[1+i] = word
				a, e := text.ParseAct(strings.Join(l, " "))
				if have := field(&a, name).Int(); e != api.OK || have != int64(n) {
					t.Errorf("%v: have %d, %d", l, have, e)
				}
			}
		}
	}
}

// What is no pick: a word alone, to the letter.
func TestP17_2_NoPick(t *testing.T) {
	for _, word := range []string{"sink", `""`, `" "`, "1", "7", "0", "Sync", "SYNC", "syn", "synch", "reads", "PSync", "notices", "?", `"sync "`, "stop", "deliver"} {
		noAct(t, "pick 1 "+word, api.ErrWord)
	}
	for i, word := range pickWords() {
		act(t, "pick 1 "+word, world.Act{Kind: world.WPick, Node: 1, N: 1 + i})
	}
}

// Of two faults the left one is told.
func TestP17_2_FromTheLeft(t *testing.T) {
	noAct(t, "pick x sink", api.ErrNumber)
	noAct(t, "pick 01 sink", api.ErrNumber)
	noAct(t, "pick 1 sink", api.ErrWord)
	noAct(t, "pick x sync", api.ErrNumber)
	noAct(t, "pick x", api.ErrWords)
	noAct(t, "pick x sink 1", api.ErrWords)
	noAct(t, "pock x", api.ErrWord)
	noAct(t, "pock x \"", api.ErrForm)
	noAct(t, "tick x y", api.ErrNumber)
	noAct(t, "tick 1 y", api.ErrNumber)
	noAct(t, "tick x 1", api.ErrNumber)
	noAct(t, "swap x 1 a b c", api.ErrNumber)
	noAct(t, "swap 1 x a b c", api.ErrNumber)
}

// A word counts by what it holds, quoted or not.
func TestP17_2_QuotedWords(t *testing.T) {
	for s, a := range lines() {
		words, e := text.Words(s)
		if e != api.OK {
			t.Fatalf("%s: %d", s, e)
		}
		for i, word := range words {
			if q := text.Quote(word); q == word {
				words[i] = `"` + strings.ReplaceAll(word, `\`, `\\`) + `"`
			} else {
				words[i] = q
			}
		}
		act(t, strings.Join(words, " "), a)
	}
}

// Lines made of what lines are made of, held against a model of the chapter.
func TestP17_2_Model(t *testing.T) {
	r := rand.New(rand.NewPCG(17, 2))
	seen := [32]int{}
	for range 60000 {
		names := strings.Fields(one(r, table()...).line)
		for i, name := range names {
			switch {
			case r.IntN(12) == 0:
				names[i] = one(r, "", "x", "a\"b", "\"", "cut", "\t", text.Quote(anyText(r, 3)), one(r, notNumbers()...))
			case i == 0:
			case isText(name):
				names[i] = text.Quote(anyText(r, 4))
			case name == "PICK":
				names[i] = one(r, pickWords()...)
			default:
				names[i] = fmt.Sprint(anyNumber(r))
			}
		}
		if r.IntN(12) == 0 {
			names = append(names, "1")
		}
		s := strings.Join(names, strings.Repeat(" ", one(r, 1, 2, 1+r.IntN(4096))))
		want, f := modelParse(s)
		a, e := text.ParseAct(s)
		if a != want || e != f {
			t.Fatalf("%q: have %v, %d; want %v, %d", short(s), a, e, want, f)
		}
		seen[e]++
	}
	for _, e := range []api.Errno{api.OK, api.ErrLong, api.ErrForm, api.ErrWord, api.ErrWords, api.ErrNumber} {
		if seen[e] < 300 {
			t.Errorf("%d: only %d times", e, seen[e])
		}
	}
}

func TestP17_3_NoKind(t *testing.T) {
	for _, kind := range append(far(), 0, 17, 18, 32) {
		noLine(t, world.Act{Kind: kind}, api.ErrKind)
		noLine(t, world.Act{Kind: kind, Node: 1 << 63 >> 1, Client: 1, N: 10, M: 2, Op: 9, Key: strings.Repeat("k", 5000)}, api.ErrKind)
	}
}

// An Op that is none is told ahead of fields that aren't named, and of what is out of range or too long.
func TestP17_3_NoOp(t *testing.T) {
	for _, op := range append(far(), 0, 5, 6) {
		noLine(t, world.Act{Kind: world.WCall, Op: op}, api.ErrWord)
		noLine(t, world.Act{Kind: world.WCall, Op: op, N: 1, M: 1, Key: "k", Value: "v", Old: "o"}, api.ErrWord)
		noLine(t, world.Act{Kind: world.WCall, Op: op, Client: 1<<62 + 1}, api.ErrWord)
		noLine(t, world.Act{Kind: world.WCall, Op: op, Key: strings.Repeat("k", 5000)}, api.ErrWord)
	}
}

// Each field that a line doesn't name, for each line.
func TestP17_3_WhatItsLineDoesNotName(t *testing.T) {
	for _, c := range table() {
		whole := " " + c.line + " "
		for name, spoil := range map[string]func(a *world.Act, far int){
			"NODE":   func(a *world.Act, far int) { a.Node = far },
			"CLIENT": func(a *world.Act, far int) { a.Client = far },
			"N":      func(a *world.Act, far int) { a.N = far },
			"M":      func(a *world.Act, far int) { a.M = far },
			"op":     func(a *world.Act, far int) { a.Op = far },
			"key":    func(a *world.Act, _ int) { a.Key = "k" },
			"value":  func(a *world.Act, _ int) { a.Value = "\x00" },
			"old":    func(a *world.Act, _ int) { a.Old = strings.Repeat("o", 5000) },
		} {
			if strings.Contains(whole, " "+name+" ") || name == "N" && c.act.Kind == world.WPick || name == "M" && c.act.Kind == world.WLink || name == "op" && c.act.Kind == world.WCall {
				continue
			}
			for _, n := range append(far(), 1, 2) {
				a := c.act
				if a.Kind == world.WPick {
					a.N = 3
				}
				spoil(&a, n)
				noLine(t, a, api.ErrForm)
				// Ahead of all that is told behind it.
				if strings.Contains(whole, " NODE ") {
					a.Node = 1<<62 + 1
				}
				if a.Kind == world.WPick {
					a.N = 10
				}
				if a.Kind == world.WLink {
					a.M = 2
				}
				if strings.Contains(whole, " key ") {
					a.Key = strings.Repeat("k", 5000)
				}
				noLine(t, a, api.ErrForm)
			}
		}
	}
}

// A pick that is none is told ahead of what is out of range.
func TestP17_3_NoPick(t *testing.T) {
	for _, n := range append(far(), 0, 10, 11) {
		noLine(t, world.Act{Kind: world.WPick, N: n}, api.ErrWord)
		noLine(t, world.Act{Kind: world.WPick, Node: 1, N: n}, api.ErrWord)
		noLine(t, world.Act{Kind: world.WPick, Node: 1<<62 + 1, N: n}, api.ErrWord)
		noLine(t, world.Act{Kind: world.WPick, Node: 1<<62 + 1, N: n, Client: 1}, api.ErrForm)
	}
	noLine(t, world.Act{Kind: world.WPick, Node: 1<<62 + 1, N: 9}, api.ErrRange)
}

// Each number of each line, at the edges of the range.
func TestP17_3_Range(t *testing.T) {
	for _, c := range table() {
		for _, name := range strings.Fields(c.line)[1:] {
			if isText(name) || name == "PICK" {
				continue
			}
			for _, n := range append(far(), 0, 1) {
				a := c.act
				if a.Kind == world.WPick {
					a.N = 1
				}
				field(&a, name).SetInt(int64(n))
				if n > 1<<62 || n < -1<<62 {
					noLine(t, a, api.ErrRange)
					a.Key, a.Value, a.Old = strings.Repeat("k", 5000), "", ""
					if a.Kind == world.WCall {
						noLine(t, a, api.ErrRange) // ahead of ErrLong
					}
				} else if s, e := text.FormatAct(a); e != api.OK || !strings.Contains(s+" ", fmt.Sprintf(" %d ", n)) {
					t.Errorf("%v: have %s, %d", a, s, e)
				}
			}
		}
	}
	for _, m := range append(far(), 2, 3) {
		noLine(t, world.Act{Kind: world.WLink, Node: 1, N: 2, M: m}, api.ErrRange)
		noLine(t, world.Act{Kind: world.WLink, Node: 1, N: 2, M: m, Key: "k"}, api.ErrForm)
	}
}

// MaxLine bytes are enough for an act's line; one more is not, be it of a text, of a number, or of quoting.
func TestP17_3_Long(t *testing.T) {
	put := func(key, value string) world.Act {
		return world.Act{Kind: world.WCall, Client: 1, Node: 2, Op: api.OpPut, Key: key, Value: value}
	}
	room := api.MaxLine - len("put 1 2 k ")
	long := strings.Repeat("v", room)
	line(t, put("k", long), "put 1 2 k "+long)
	line(t, put(long, "k"), "put 1 2 "+long+" k")
	noLine(t, put("k", long+"v"), api.ErrLong)
	noLine(t, put("kk", long), api.ErrLong)
	noLine(t, put("", long), api.ErrLong) // "" has two bytes
	more := put("k", long)
	more.Client = -1
	noLine(t, more, api.ErrLong)
	noLine(t, put("k", "#"+long[1:]), api.ErrLong)
	line(t, put("k", "#"+long[3:]), `put 1 2 k "#`+long[3:]+`"`)
	zeros := strings.Repeat("\x00", (room-2)/4)
	line(t, put("k", zeros), `put 1 2 k "`+strings.Repeat(`\x00`, len(zeros))+`"`)
	noLine(t, put("k", zeros+"\x00"), api.ErrLong)
	swap := world.Act{Kind: world.WCall, Client: 1, Node: 2, Op: api.OpSwap, Key: long[:1000], Old: long[:1000], Value: long[:api.MaxLine-2011]}
	line(t, swap, "swap 1 2 "+swap.Key+" "+swap.Old+" "+swap.Value)
	swap.Old += "v"
	noLine(t, swap, api.ErrLong)
	for _, n := range []int{api.MaxLine - 7, api.MaxLine - 8, api.MaxLine, api.MaxLine + 1, 1 << 22} {
		a := world.Act{Kind: world.WCall, Client: 1, Node: 2, Op: api.OpGet, Key: strings.Repeat("k", n)}
		if n+len("get 1 2 ") <= api.MaxLine {
			line(t, a, "get 1 2 "+a.Key)
		} else {
			noLine(t, a, api.ErrLong)
		}
	}
}

// Acts of all kinds with anything in their fields, held against a model of the chapter.
func TestP17_3_Model(t *testing.T) {
	r := rand.New(rand.NewPCG(17, 3))
	seen := [32]int{}
	for range 100000 {
		a := anyAct(r)
		for range r.IntN(4) {
			switch n := wildNumber(r); r.IntN(10) {
			case 0:
				a.Kind = one(r, n, r.IntN(18))
			case 1:
				a.Node = n
			case 2:
				a.Client = n
			case 3:
				a.N = n
			case 4:
				a.M = n
			case 5:
				a.Op = one(r, n, r.IntN(6))
			case 6:
				a.Key = anyText(r, 3)
			case 7:
				a.Value = one(r, anyText(r, 3), strings.Repeat(anyText(r, 1), 4080+r.IntN(10)))
			case 8:
				a.Old = anyText(r, 3)
			}
		}
		want, f := modelFormat(a)
		s, e := text.FormatAct(a)
		if s != want || e != f {
			t.Fatalf("%s: have %s, %d; want %s, %d", short(fmt.Sprint(a)), short(s), e, short(want), f)
		}
		seen[e]++
	}
	for _, e := range []api.Errno{api.OK, api.ErrRange, api.ErrLong, api.ErrForm, api.ErrKind, api.ErrWord} {
		if seen[e] < 100 {
			t.Errorf("%d: only %d times", e, seen[e])
		}
	}
}

// All fields that may be something, or nothing, in all ways.
func TestP17_3_AllFields(t *testing.T) {
	for kind := range 18 {
		for bits := range 1 << 8 {
			for op := range 6 {
				on := func(i int) int { return bits >> i & 1 }
				text1 := func(i int, s string) string { return strings.Repeat(s, on(i)) }
				a := world.Act{Kind: kind, Node: on(0), Client: on(1), N: 3 * on(2), M: on(3), Op: op * on(4), Key: text1(5, "k"), Value: text1(6, "v v"), Old: text1(7, "#")}
				want, f := modelFormat(a)
				if s, e := text.FormatAct(a); s != want || e != f {
					t.Fatalf("%v: have %s, %d; want %s, %d", a, s, e, want, f)
				}
			}
		}
	}
}
