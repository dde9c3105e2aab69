package lex_test

import (
	"math"
	"slices"
	"strings"
	"testing"
	"unsafe"

	"weirgate/api"
	"weirgate/lex"
)

// dice returns a function whose results depend on the seed alone.
func dice(seed uint64) func(n int) int {
	return func(n int) int {
		seed = seed*6364136223846793005 + 1442695040888963407
		return int(seed>>33) % n
	}
}

// texts calls f with each text of up to most of these bytes.
func texts(from string, most int, f func(s string)) {
	f("")
	if most == 0 {
		return
	}
	for i := range len(from) {
		texts(from, most-1, func(s string) { f(from[i:i+1] + s) })
	}
}

// compare holds the tokens of a text against those of the plain reading.
func compare(t *testing.T, s string) {
	t.Helper()
	want, wantFault := plainTokens(s)
	got, fault := lex.Tokens(s)
	if !slices.Equal(got, want) || fault != wantFault {
		t.Fatalf("P8.1: %q: %v, %v; asked for: %v, %v", s, got, fault, want, wantFault)
	}
}

func word(s string, at int) api.Token   { return api.Token{Kind: api.TokWord, S: s, At: at} }
func number(s string, at int) api.Token { return api.Token{Kind: api.TokNum, S: s, At: at} }
func sign(s string, at int) api.Token   { return api.Token{Kind: api.TokSign, S: s, At: at} }
func end(at int) api.Token              { return api.Token{Kind: api.TokEnd, At: at} }

func TestTokens(t *testing.T) {
	for s, want := range map[string][]api.Token{
		"":                      {end(0)},
		"x":                     {word("x", 0), end(1)},
		"7":                     {number("7", 0), end(1)},
		";":                     {sign(";", 0), end(1)},
		"x1==2":                 {word("x1", 0), sign("==", 2), number("2", 4), end(5)},
		"var xy of 8 = -3;":     {word("var", 0), word("xy", 4), word("of", 7), number("8", 10), sign("=", 12), sign("-", 14), number("3", 15), sign(";", 16), end(17)},
		"A_z_0Z9 b__":           {word("A_z_0Z9", 0), word("b__", 8), end(11)},
		"1a2_3 4":               {number("1", 0), word("a2_3", 1), number("4", 6), end(7)},
		"000000 999999 007":     {number("000000", 0), number("999999", 7), number("007", 14), end(17)},
		"123456a":               {number("123456", 0), word("a", 6), end(7)},
		"send sender Send":      {word("send", 0), word("sender", 5), word("Send", 12), end(16)},
		"abcdefghijklmnop":      {word("abcdefghijklmnop", 0), end(16)}, // no name, but a word
		"{}[]()":                {sign("{", 0), sign("}", 1), sign("[", 2), sign("]", 3), sign("(", 4), sign(")", 5), end(6)},
		";=<+-*/%!":             {sign(";", 0), sign("=", 1), sign("<", 2), sign("+", 3), sign("-", 4), sign("*", 5), sign("/", 6), sign("%", 7), sign("!", 8), end(9)},
		"=== ==== !==":          {sign("==", 0), sign("=", 2), sign("==", 4), sign("==", 6), sign("!", 9), sign("==", 10), end(12)},
		"= =":                   {sign("=", 0), sign("=", 2), end(3)},
		"&&&&||||":              {sign("&&", 0), sign("&&", 2), sign("||", 4), sign("||", 6), end(8)},
		"<=--":                  {sign("<", 0), sign("=", 1), sign("-", 2), sign("-", 3), end(4)},
		" \t\r\n":               {end(4)},
		"\r\na\tb\n":            {word("a", 2), word("b", 4), end(6)},
		"//":                    {end(2)},
		"// a & b > \x00\xffé":  {end(15)},
		"//\n":                  {end(3)},
		"a//b\nc":               {word("a", 0), word("c", 5), end(6)},
		"a//b\r c\nd":           {word("a", 0), word("d", 8), end(9)}, // a carriage return ends no comment
		"a///b//c\n//d\n\n //e": {word("a", 0), end(18)},
		"/ /":                   {sign("/", 0), sign("/", 2), end(3)},
		"*//*\n/*":              {sign("*", 0), sign("/", 5), sign("*", 6), end(7)},
		"1//2\n3":               {number("1", 0), number("3", 5), end(6)},
		"123456//\n7":           {number("123456", 0), number("7", 9), end(10)},
	} {
		if got, fault := lex.Tokens(s); !slices.Equal(got, want) || fault != (api.Fault{}) {
			t.Errorf("P8.1: %q: %v, %v", s, got, fault)
		}
	}
}

func TestFaults(t *testing.T) {
	for s, at := range map[string]int{
		"&":                             0,
		"|":                             0,
		"a&b":                           1,
		"a | b":                         2,
		"&&&":                           2,
		"|||a":                          2,
		"&|":                            0,
		"|&&":                           0,
		"& &":                           0,
		"_":                             0,
		"a _b":                          2,
		"1_":                            1,
		"a>b":                           1,
		"a\x00":                         1,
		"\v":                            0,
		" \f":                           1,
		"é":                             0,
		"aé":                            1,
		"\u00a0":                        0,
		"\ufeffa":                       0,
		"a\n\n\"b\"":                    3,
		"1234567":                       0,
		" 0000000":                      1,
		"a1234567 b 1234567a":           11,
		"1234567 >":                     0,
		"> 1234567":                     0,
		"//&\n//|\n#":                   8,
		strings.Repeat("9", 4000):       0,
		strings.Repeat(" ", 3999) + "$": 3999,
	} {
		if got, fault := lex.Tokens(s); len(got) != 0 || fault != (api.Fault{Err: api.ErrLex, At: at}) {
			t.Errorf("P8.1: %.20q: %v, %v", s, got, fault)
		}
	}
}

func TestTextsOfGreatestLength(t *testing.T) {
	for piece, count := range map[string]int{" ": 0, "\n": 0, "//..": 0, "a ": 1, "1 ": 1, "==": 1, "&&": 1, "/ ": 1, "a1_=": 2, ";": 1, "12345 ;+": 3} {
		full := strings.Repeat(piece, 4000/len(piece))
		got, fault := lex.Tokens(full)
		if len(full) != 4000 || fault != (api.Fault{}) || len(got) != count*4000/len(piece)+1 || got[len(got)-1] != end(4000) {
			t.Errorf("P8.1: %.9q: %d tokens, %v", full, len(got), fault)
		}
		for _, more := range []string{" ", "a", "&", "\n", "\xff", full} {
			if got, fault := lex.Tokens(full + more); len(got) != 0 || fault != (api.Fault{Err: api.ErrBig}) {
				t.Errorf("P8.1: too many bytes %.9q: %d tokens, %v", full, len(got), fault)
			}
		}
	}
	long := strings.Repeat("a", 4000)
	if got, _ := lex.Tokens(long); !slices.Equal(got, []api.Token{word(long, 0), end(4000)}) {
		t.Error("P8.1: a word of the greatest length")
	}
	for _, s := range []string{"&" + long, long + "1234567", strings.Repeat("\xff", 4001)} { // the length is the first fault
		if got, fault := lex.Tokens(s); len(got) != 0 || fault != (api.Fault{Err: api.ErrBig}) {
			t.Errorf("P8.1: %d bytes %.9q: %v", len(s), s, fault)
		}
	}
}

func TestEachByteAndPair(t *testing.T) {
	for a := range 256 {
		compare(t, string([]byte{byte(a)}))
		for b := range 256 {
			compare(t, string([]byte{byte(a), byte(b)}))
			compare(t, string([]byte{'x', byte(a), byte(b), '5'}))
			compare(t, string([]byte{'/', '/', byte(a), byte(b), '='}))
		}
	}
}

func TestShortTexts(t *testing.T) {
	count := 0
	texts("aZ_09/&|=! \n\r.", 4, func(s string) {
		count++
		compare(t, s)
	})
	if count != 1+14+14*14+14*14*14+14*14*14*14 {
		t.Fatalf("%d texts", count)
	}
}

func TestTextsOfPieces(t *testing.T) {
	pieces := append(strings.Fields(plainKeywords), "a", "x1", "y_", "Zz", "0", "12", "123", "1234", "==", "=", "&&", "||", "{", "}", "[", "]", "(", ")", ";", "<", "+", "-", "*", "/", "%", "!", " ", " ", " ", "\t", "\r", "\n", "\n", "//", "///", "// &\n")
	rare := []string{"&", "|", "_", ">", "\x00", "\x80", "é", "1234567"}
	roll := dice(8)
	faults := 0
	for range 5000 {
		var b strings.Builder
		for range roll(40) {
			if roll(60) == 0 {
				b.WriteString(rare[roll(len(rare))])
			}
			b.WriteString(pieces[roll(len(pieces))])
		}
		compare(t, b.String())
		if _, fault := lex.Tokens(b.String()); fault.Err != api.OK {
			faults++
		}
	}
	if faults < 500 || faults > 4500 {
		t.Errorf("%d of 5000 texts have faults: too few of one kind", faults)
	}
}

// TestNewMemory: what is done with one result is not to be seen in another one, and no token retains the text.
func TestNewMemory(t *testing.T) {
	s := "send c 1 == x; // y"
	want, _ := plainTokens(s)
	first, _ := lex.Tokens(s)
	second, _ := lex.Tokens(s)
	clear(first)
	clear(first[:cap(first)])
	third, _ := lex.Tokens(s)
	if !slices.Equal(second, want) || !slices.Equal(third, want) {
		t.Errorf("P8.1: results share memory: %v, %v", second, third)
	}
	low := uintptr(unsafe.Pointer(unsafe.StringData(s)))
	for _, x := range second[:len(second)-1] {
		if at := uintptr(unsafe.Pointer(unsafe.StringData(x.S))); at >= low && at < low+uintptr(len(s)) {
			t.Errorf("P8.1: %q is a part of the argument", x.S)
		}
	}
}

func TestKey(t *testing.T) {
	keys := strings.Fields(plainKeywords)
	if len(keys) != 21 {
		t.Fatalf("%d keywords", len(keys))
	}
	for _, k := range keys {
		if !lex.Key(k) {
			t.Errorf("P8.2: %s is a keyword", k)
		}
		for _, s := range []string{strings.ToUpper(k), strings.ToUpper(k[:1]) + k[1:], k + k, " " + k, k + " ", k + "\n", k + "\x00", k + "_", k + "1", k + "s", "a" + k} {
			if lex.Key(s) != plainKey(s) {
				t.Errorf("P8.2: Key(%q): %v", s, lex.Key(s))
			}
		}
		for n := range len(k) {
			if lex.Key(k[:n]) != plainKey(k[:n]) || lex.Key(k[n:]) != plainKey(k[n:]) {
				t.Errorf("P8.2: Key of a part of %s, at %d", k, n)
			}
		}
	}
	for _, s := range []string{"", "a", "x1", "1", "==", "//", "and", "not", "for", "int", "true", "chan of", plainKeywords} {
		if lex.Key(s) {
			t.Errorf("P8.2: %q is no keyword", s)
		}
	}
}

func TestName(t *testing.T) {
	for s, want := range map[string]bool{
		"a": true, "Z": true, "z9_": true, "A__": true, "chan1": true, "Chan": true, "o": true, "fo": true, "len_": true,
		"": false, "_": false, "_a": false, "9": false, "9a": false, "a-b": false, "a b": false, "a ": false, " a": false, "a\n": false, "a//": false, "//a": false, "a;": false, "=": false, "==": false, "é": false, "aé": false, "a\x00": false, "\xff": false,
		"abcdefghijkl": true, "a1_2_3_4_5_6": true, "abcdefghijklm": false, "abcdefghijk ": false, "abcdefghijklm n": false,
		strings.Repeat("a", 100000): false, strings.Repeat("1", 100000): false, strings.Repeat("\xff", 100000): false,
	} {
		if lex.Name(s) != want {
			t.Errorf("P8.2: Name(%.20q): %v", s, !want)
		}
	}
	for _, k := range strings.Fields(plainKeywords) {
		if lex.Name(k) || !lex.Name(k+"_") || !lex.Name(strings.ToUpper(k)) {
			t.Errorf("P8.2: %s, and what is like it", k)
		}
	}
	for n := range 30 {
		if lex.Name(strings.Repeat("q", n)) != (n > 0 && n <= 12) {
			t.Errorf("P8.2: a word of %d bytes", n)
		}
	}
}

// TestNamesOfEachByte: each byte at the beginning, between and at the end of a name.
func TestNamesOfEachByte(t *testing.T) {
	for a := range 256 {
		for b := range 256 {
			for _, s := range []string{string([]byte{byte(a)}), string([]byte{byte(a), byte(b)}), string([]byte{'i', byte(a), byte(b)}), string([]byte{'s', 'k', byte(a), byte(b)})} {
				if lex.Name(s) != plainName(s) || lex.Key(s) != plainKey(s) {
					t.Fatalf("P8.2: %q: Name %v, Key %v", s, lex.Name(s), lex.Key(s))
				}
			}
		}
	}
}

func TestPlace(t *testing.T) {
	for _, x := range []struct {
		s                string
		at, line, column int
	}{
		{"", 0, 1, 1},
		{"", 1, 1, 1},
		{"", -1, 1, 1},
		{"abc", 0, 1, 1},
		{"abc", 2, 1, 3},
		{"abc", 3, 1, 4}, // the end
		{"abc", 4, 1, 4},
		{"a\nb", 1, 1, 2}, // a line feed belongs to the line that it ends
		{"a\nb", 2, 2, 1},
		{"a\n", 2, 2, 1},
		{"a\n", 99, 2, 1},
		{"\n\n\n", 0, 1, 1},
		{"\n\n\n", 1, 2, 1},
		{"\n\n\n", 3, 4, 1},
		{"\r\r\n a", 4, 2, 2}, // a carriage return ends no line
		{"\r\r\n a", 2, 1, 3},
		{"éé x", 5, 1, 6}, // bytes, not characters
		{"\té\nx\t y", 7, 2, 4},
		{"ab\ncd\nef", math.MaxInt, 3, 3},
		{"ab\ncd\nef", math.MinInt, 1, 1},
	} {
		if line, column := lex.Place(x.s, x.at); line != x.line || column != x.column {
			t.Errorf("P8.2: Place(%q, %d): %d, %d", x.s, x.at, line, column)
		}
	}
}

func TestPlacesOfShortTexts(t *testing.T) {
	texts("a\n\r\xc3", 6, func(s string) {
		for at := -2; at <= len(s)+2; at++ {
			line, column := lex.Place(s, at)
			wantLine, wantColumn := plainPlace(s, at)
			if line != wantLine || column != wantColumn {
				t.Fatalf("P8.2: Place(%q, %d): %d, %d", s, at, line, column)
			}
		}
	})
}

// TestPlaceOfLongText: Place takes texts of which Tokens has none.
func TestPlaceOfLongText(t *testing.T) {
	s := strings.Repeat(strings.Repeat("x", 9)+"\n", 100000)
	for _, at := range []int{0, 9, 10, 500005, len(s) - 1} {
		if line, column := lex.Place(s, at); line != 1+at/10 || column != 1+at%10 {
			t.Errorf("P8.2: position %d: %d, %d", at, line, column)
		}
	}
	if line, column := lex.Place(s, len(s)+1); line != 100001 || column != 1 {
		t.Errorf("P8.2: beyond the end: %d, %d", line, column)
	}
}
