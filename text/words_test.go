package text_test

import (
	"fmt"
	"math/rand/v2"
	"regexp"
	"slices"
	"strconv"
	"strings"
	"testing"

	"synod/api"
	"synod/text"
)

// The chapter's words, as patterns; a quoted one is, as far as it goes, a string of Go.
const (
	bareWord   = `[!#-~]+`
	quotedWord = `"(?:[ !#-\[\]-~]|\\"|\\\\|\\x(?:[01][0-9a-f]|7f|[89a-f][0-9a-f]))*"`
	anyWord    = `(?:` + bareWord + `|` + quotedWord + `)`
)

var (
	wholeLine = regexp.MustCompile(`^ *(?:` + anyWord + `(?: +` + anyWord + `)*)? *$`)
	eachWord  = regexp.MustCompile(anyWord)
	bareAlone = regexp.MustCompile(`^[!$-~][!#-~]*$`) // not a remark
)

// modelWords is what the patterns say of a line.
func modelWords(line string) ([]string, api.Errno) {
	if len(line) > api.MaxLine {
		return nil, api.ErrLong
	}
	if !wholeLine.MatchString(line) {
		return nil, api.ErrForm
	}
	var l []string
	for _, w := range eachWord.FindAllString(line, -1) {
		if w[0] == '"' {
			held, err := strconv.Unquote(w)
			if err != nil {
				panic(w)
			}
			w = held
		}
		l = append(l, w)
	}
	return l, api.OK
}

// sameWords holds a line against the model.
func sameWords(t *testing.T, line string) api.Errno {
	t.Helper()
	want, f := modelWords(line)
	l, e := text.Words(line)
	if e != f || !slices.Equal(l, want) {
		t.Fatalf("%q: have %q, %d; want %q, %d", short(line), l, e, want, f)
	}
	return e
}

// All short lines of the bytes that count.
func TestP17_1_AllShortLines(t *testing.T) {
	for alphabet, most := range map[string]int{" \"\\a\n": 7, "\"\\x0af": 7, "\"\\x127f8A": 5, " \"#~!\x7f\x1f\x80": 4} {
		var whole func(front string)
		whole = func(front string) {
			sameWords(t, front)
			if len(front) < most {
				for i := range len(alphabet) {
					whole(front + alphabet[i:i+1])
				}
			}
		}
		whole("")
		if most >= 5 { // within a quoted word, behind others
			most += 3
			whole(`a "\`)
		}
	}
}

// Longer lines: whole ones, and ones with a byte that is changed, missing or too much.
func TestP17_1_LongerLines(t *testing.T) {
	r := rand.New(rand.NewPCG(17, 1))
	seen := [32]int{}
	for range 60000 {
		var b strings.Builder
		for range r.IntN(6) {
			b.WriteString(strings.Repeat(" ", r.IntN(3)))
			b.WriteString(text.Quote(anyText(r, 6)))
			b.WriteString(strings.Repeat(" ", min(1, r.IntN(9))))
		}
		s := []byte(b.String())
		if at := r.IntN(len(s) + 1); at < len(s) {
			c := one(r, ' ', '"', '\\', 'x', '0', 'A', '\t', 0, 0x7f, 0x80, 0xff, byte(r.Uint32()))
			switch r.IntN(5) {
			case 0:
				s[at] = c
			case 1:
				s = slices.Delete(s, at, at+1)
			case 2:
				s = slices.Insert(s, at, c)
			}
		}
		seen[sameWords(t, string(s))]++
	}
	if seen[api.OK] < 10000 || seen[api.ErrForm] < 10000 {
		t.Errorf("%v", seen)
	}
}

// anyText is a text of at most so many bytes, of all kinds.
func anyText(r *rand.Rand, most int) string {
	b := make([]byte, r.IntN(most+1))
	for i := range b {
		b[i] = one(r, 'a', 'Z', '7', '#', '-', ' ', '"', '\\', 'x', '~', '!', byte(r.Uint32()))
	}
	return string(b)
}

// Each byte, as a bare word, between blanks, in a bare word, in a quoted one.
func TestP17_1_EachByte(t *testing.T) {
	for c := range 256 {
		s := string([]byte{byte(c)})
		bare := c >= 0x21 && c <= 0x7e && c != '"'
		plain := c >= 0x20 && c <= 0x7e && c != '"' && c != '\\'
		switch {
		case bare:
			words(t, s, s)
			words(t, "a "+s+" b", "a", s, "b")
			words(t, "a"+s+"b", "a"+s+"b")
		case c == ' ':
			words(t, s)
			words(t, "a"+s+"b", "a", "b")
		default:
			noWords(t, s, api.ErrForm)
			noWords(t, "a "+s+" b", api.ErrForm)
			noWords(t, "a"+s+"b", api.ErrForm)
			noWords(t, " "+s, api.ErrForm)
			noWords(t, s+" ", api.ErrForm)
		}
		if plain {
			words(t, `"`+s+`"`, s)
			words(t, `"a`+s+`b"`, "a"+s+"b")
		} else {
			noWords(t, `"a`+s+`b"`, api.ErrForm)
		}
		if c == '"' || c == '\\' {
			words(t, `"\`+s+`"`, s)
			words(t, `"a\`+s+`b" c`, "a"+s+"b", "c")
		} else {
			noWords(t, `"\`+s+`"`, api.ErrForm)
			noWords(t, `"\`+s+`e"`, api.ErrForm)
		}
		// Only a byte that has no other spelling is told by digits.
		spelt := fmt.Sprintf(`\x%02x`, c)
		if plain || c == '"' || c == '\\' {
			noWords(t, `"`+spelt+`"`, api.ErrForm)
			is(t, text.Quote("\n"+s), `"\x0a`+map[bool]string{true: s, false: `\` + s}[plain]+`"`)
		} else {
			words(t, `"`+spelt+`"`, s)
			words(t, `"a`+spelt+`b"`, "a"+s+"b")
			is(t, text.Quote(s), `"`+spelt+`"`)
			is(t, text.Quote("a"+s+"b"), `"a`+spelt+`b"`)
		}
		if upper := fmt.Sprintf(`\x%02X`, c); upper != spelt {
			noWords(t, `"`+upper+`"`, api.ErrForm)
		}
		noWords(t, `"`+fmt.Sprintf(`\X%02x`, c)+`"`, api.ErrForm)
	}
}

// Two digits that are none, or not two.
func TestP17_1_Digits(t *testing.T) {
	for _, s := range []string{"", "0", "0g", "g0", "+1", "-1", " 1", "1 ", "0x", "x0", "0_", "_0", "0\n", "\x000", "0\"", "\\n"} {
		noWords(t, `"\x`+s+`"`, api.ErrForm)
		noWords(t, `"\x`+s, api.ErrForm)
		noWords(t, `a "b\x`+s+`" c`, api.ErrForm)
	}
	words(t, `"\x000"`, "\x000")
	words(t, `"\x00\x01a\xff"`, "\x00\x01a\xff")
	words(t, `\x00`, `\x00`) // a bare word has no other spellings
	words(t, `\ "\\" \\`, `\`, `\`, `\\`)
	noWords(t, `\"`, api.ErrForm)
}

// Quoted words end, and with a blank or the line's end behind them.
func TestP17_1_QuotedWords(t *testing.T) {
	words(t, `""`, "")
	words(t, `"" ""`, "", "")
	words(t, `  ""  "" `, "", "")
	words(t, `" " "  a "`, " ", "  a ")
	words(t, `"#" # #a`, "#", "#", "#a")
	words(t, `"\"" "\\" "\\\""`, `"`, `\`, `\"`)
	for _, s := range []string{`"`, `"a`, `a "`, `a "b c`, `"\"`, `"a\"`, `"\\\"`, `"\`, `"a\`, `"" "`, `"""`, `"a""b"`, `""a`, `""#`, `a""`, `a"`, `a"b`, `"a"\`, `"a"` + "\n", `"a"` + "\t" + `"b"`, `'a"`, `"a'`} {
		noWords(t, s, api.ErrForm)
		noWords(t, "a b "+s, api.ErrForm)
		noWords(t, s+" a", api.ErrForm)
	}
}

// A fault is one wherever it stands; of it nothing is told but the error.
func TestP17_1_AFaultAnywhere(t *testing.T) {
	good := `put 1 2 "a b" c "\x0a" d`
	words(t, good, "put", "1", "2", "a b", "c", "\n", "d")
	for at := 0; at <= len(good); at++ {
		noWords(t, good[:at]+"\x00"+good[at:], api.ErrForm)
		noWords(t, good[:at]+"\n"+good[at:], api.ErrForm)
		noWords(t, good[:at]+"é"+good[at:], api.ErrForm)
	}
}

// MaxLine bytes are enough for a line, of whatever they are; one more is not, whatever it is.
func TestP17_1_Long(t *testing.T) {
	for _, part := range []string{" ", "a", "#", "\\"} {
		s := strings.Repeat(part, api.MaxLine)
		if part == " " {
			words(t, s)
		} else {
			words(t, s, s)
		}
		noWords(t, s+part, api.ErrLong)
		noWords(t, s+" ", api.ErrLong)
		noWords(t, " "+s, api.ErrLong)
		noWords(t, s+"\n", api.ErrLong) // ahead of ErrForm
		noWords(t, s[1:]+"\n", api.ErrForm)
		noWords(t, s[1:]+"\"", api.ErrForm)
		noWords(t, s+strings.Repeat(part, api.MaxLine*10), api.ErrLong)
	}
	many := strings.Repeat("a ", api.MaxLine/2)
	words(t, many, strings.Fields(many)...)
	noWords(t, many+" ", api.ErrLong)
	held := strings.Repeat("b", api.MaxLine-2)
	words(t, `"`+held+`"`, held)
	noWords(t, ` "`+held+`"`, api.ErrLong)
	noWords(t, strings.Repeat("\"", api.MaxLine+1), api.ErrLong)
	noWords(t, strings.Repeat("\x00", api.MaxLine+1), api.ErrLong)
	noWords(t, strings.Repeat("\x00", api.MaxLine), api.ErrForm)
}

// quoted holds Quote against the patterns: the text itself, if it is a bare word and no remark; else the one quoted word.
func quoted(t *testing.T, s string) {
	t.Helper()
	q := text.Quote(s)
	if bareAlone.MatchString(s) {
		is(t, q, s)
		return
	}
	held, err := strconv.Unquote(q)
	if err != nil || held != s || !regexp.MustCompile(`^`+quotedWord+`$`).MatchString(q) {
		t.Fatalf("%q is quoted as %s", s, q)
	}
}

func TestP17_1_Quote(t *testing.T) {
	for s, want := range map[string]string{
		"a": "a", "#": `"#"`, "a#": "a#", "##": `"##"`, " ": `" "`, " a": `" a"`, "a ": `"a "`, " #": `" #"`,
		"\"": `"\""`, "a\"b": `"a\"b"`, "\\": `\`, "\\\\": `\\`, "\\ ": `"\\ "`, "#\\": `"#\\"`, "\\\"": `"\\\""`,
		"\x00": `"\x00"`, "\x1f": `"\x1f"`, "\x7f": `"\x7f"`, "\x80": `"\x80"`, "\xff": `"\xff"`, "~": "~", "!": "!", "é": `"\xc3\xa9"`,
		"\t": `"\x09"`, "\r\n": `"\x0d\x0a"`, "\\n": `\n`, "'": "'", "-5": "-5", "tick": "tick", "a\x00#": `"a\x00#"`,
	} {
		is(t, text.Quote(s), want)
	}
	for a := range 256 {
		for b := range 256 {
			quoted(t, string([]byte{byte(a), byte(b)}))
		}
	}
	r := rand.New(rand.NewPCG(17, 10))
	for range 3000 {
		quoted(t, anyText(r, 12))
	}
}

// Quote has no bound of its own.
func TestP17_1_QuoteOfALongText(t *testing.T) {
	for _, n := range []int{api.MaxLine, api.MaxLine + 1, 1 << 18} {
		is(t, text.Quote(strings.Repeat("a", n)), strings.Repeat("a", n))
		is(t, text.Quote(strings.Repeat("#", n)), `"`+strings.Repeat("#", n)+`"`)
		is(t, text.Quote(strings.Repeat("\x00", n)), `"`+strings.Repeat(`\x00`, n)+`"`)
	}
}
