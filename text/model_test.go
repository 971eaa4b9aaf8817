package text_test

import (
	"math/big"
	"math/rand/v2"
	"reflect"
	"regexp"
	"slices"
	"strconv"
	"strings"

	"synod/api"
	"synod/text"
	"synod/world"
)

// chapter is one line of P17.2's table: what stands in it, and what its first word says.
type chapter struct {
	line string
	act  world.Act
}

// table is P17.2's table.
func table() []chapter {
	return []chapter{
		{"tick NODE N", world.Act{Kind: 1}},
		{"pick NODE PICK", world.Act{Kind: 2}},
		{"deliver N", world.Act{Kind: 3}},
		{"drop N", world.Act{Kind: 4}},
		{"copy N", world.Act{Kind: 5}},
		{"spoil N M", world.Act{Kind: 6}},
		{"move N M", world.Act{Kind: 7}},
		{"link NODE N", world.Act{Kind: 8, M: 1}},
		{"cut NODE N", world.Act{Kind: 8, M: 0}},
		{"crash NODE N", world.Act{Kind: 9}},
		{"start NODE N", world.Act{Kind: 10}},
		{"arm NODE N", world.Act{Kind: 12}},
		{"stop NODE", world.Act{Kind: 11}},
		{"get CLIENT NODE key", world.Act{Kind: 13, Op: 1}},
		{"delete CLIENT NODE key", world.Act{Kind: 13, Op: 3}},
		{"put CLIENT NODE key value", world.Act{Kind: 13, Op: 2}},
		{"swap CLIENT NODE key old value", world.Act{Kind: 13, Op: 4}},
		{"again CLIENT NODE", world.Act{Kind: 14}},
		{"give CLIENT", world.Act{Kind: 15}},
		{"calm NODE N", world.Act{Kind: 16}},
	}
}

// pickWords are the words of the picks 1 to 9.
func pickWords() []string {
	return strings.Fields("notice work inbox tick call write sync apply send")
}

// field is the field of an act that a word of the table stands for.
func field(a *world.Act, word string) reflect.Value {
	name := map[string]string{"NODE": "Node", "CLIENT": "Client", "N": "N", "PICK": "N", "M": "M", "key": "Key", "value": "Value", "old": "Old"}[word]
	return reflect.ValueOf(a).Elem().FieldByName(name)
}

// isText tells whether a word of the table stands for any text.
func isText(word string) bool { return strings.ToLower(word) == word }

var digits = regexp.MustCompile(`^(0|-?[1-9][0-9]*)$`)

// modelNumber is the number of a word.
func modelNumber(word string) (int, bool) {
	n, ok := new(big.Int).SetString(word, 10)
	if !ok || !digits.MatchString(word) || n.CmpAbs(new(big.Int).Lsh(big.NewInt(1), 62)) > 0 {
		return 0, false
	}
	return int(n.Int64()), true
}

// modelParse is what P17.2 says of a line.
func modelParse(line string) (world.Act, api.Errno) {
	words, e := modelWords(line)
	if e != api.OK {
		return world.Act{}, e
	}
	for _, c := range table() {
		names := strings.Fields(c.line)
		if len(words) == 0 || names[0] != words[0] {
			continue
		}
		if len(words) != len(names) {
			return world.Act{}, api.ErrWords
		}
		a := c.act
		for i, name := range names[1:] {
			word := words[1+i]
			switch {
			case isText(name):
				field(&a, name).SetString(word)
			case name == "PICK":
				n := 1 + slices.Index(pickWords(), word)
				if n == 0 {
					return world.Act{}, api.ErrWord
				}
				a.N = n
			default:
				n, ok := modelNumber(word)
				if !ok {
					return world.Act{}, api.ErrNumber
				}
				field(&a, name).SetInt(int64(n))
			}
		}
		return a, api.OK
	}
	return world.Act{}, api.ErrWord
}

// modelLine is the line of the table that an act has, if it has one: a WLink whose M is neither has the first one of its kind.
func modelLine(a world.Act) (chapter, api.Errno) {
	e := api.ErrKind
	var of chapter
	for _, c := range table() {
		if c.act.Kind != a.Kind {
			continue
		}
		if e == api.ErrKind {
			of, e = c, api.OK
			if a.Kind == world.WCall {
				e = api.ErrWord
			}
		}
		if a.Kind == world.WCall && c.act.Op == a.Op || a.Kind == world.WLink && c.act.M == a.M {
			of, e = c, api.OK
		}
	}
	return of, e
}

// modelFormat is what P17.3 says of an act.
func modelFormat(a world.Act) (string, api.Errno) {
	c, e := modelLine(a)
	if e != api.OK {
		return "", e
	}
	names := strings.Fields(c.line)
	named := map[string]int{"Kind": 1}
	if a.Kind == world.WCall {
		named["Op"] = 1
	}
	if a.Kind == world.WLink {
		named["M"] = 1
	}
	words := []string{names[0]}
	numbers := []int{}
	for _, name := range names[1:] {
		v := field(&a, name)
		switch {
		case isText(name):
			words = append(words, text.Quote(v.String()))
		case name == "PICK" && a.N >= 1 && a.N <= 9:
			words = append(words, pickWords()[a.N-1])
		default:
			numbers = append(numbers, int(v.Int()))
			words = append(words, strconv.FormatInt(v.Int(), 10))
		}
		for i := range reflect.TypeFor[world.Act]().NumField() {
			if reflect.ValueOf(&a).Elem().Field(i).Addr().Interface() == v.Addr().Interface() {
				named[reflect.TypeFor[world.Act]().Field(i).Name] = 1
			}
		}
	}
	for i := range reflect.TypeFor[world.Act]().NumField() {
		if named[reflect.TypeFor[world.Act]().Field(i).Name] == 0 && !reflect.ValueOf(a).Field(i).IsZero() {
			return "", api.ErrForm
		}
	}
	if a.Kind == world.WPick && (a.N < 1 || a.N > 9) {
		return "", api.ErrWord
	}
	for _, n := range numbers {
		if n > 1<<62 || n < -1<<62 {
			return "", api.ErrRange
		}
	}
	if a.Kind == world.WLink && a.M != 0 && a.M != 1 {
		return "", api.ErrRange
	}
	if s := strings.Join(words, " "); len(s) <= 4096 {
		return s, api.OK
	}
	return "", api.ErrLong
}

// anyAct is an act that may have a line: its own numbers and texts, and nothing in its other fields.
func anyAct(r *rand.Rand) world.Act {
	c := one(r, table()...)
	a := c.act
	for _, name := range strings.Fields(c.line)[1:] {
		switch {
		case isText(name):
			field(&a, name).SetString(anyText(r, 8))
		case name == "PICK":
			a.N = 1 + r.IntN(9)
		default:
			field(&a, name).SetInt(int64(anyNumber(r)))
		}
	}
	return a
}

// anyNumber is a number that may be written.
func anyNumber(r *rand.Rand) int {
	n := int(r.Int64N(1<<62)) >> r.IntN(62)
	return one(r, 0, 1, 2, 3, 7, -1, 1<<62, -1<<62, 1<<62-1, n, -n)
}

// wildNumber is any number, most often one that counts.
func wildNumber(r *rand.Rand) int {
	return one(r, 0, 0, 0, 1, 2, 9, 10, one(r, far()...), anyNumber(r), int(r.Uint64()))
}
