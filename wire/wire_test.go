package wire_test

import (
	"math"
	"math/rand"
	"slices"
	"strings"
	"testing"

	"dasd/api"
	"dasd/wire"
)

// number is a number and its encoding.
type number struct {
	n    uint64
	code string
}

func numbers() []number {
	return []number{
		{0, "\x00"},
		{1, "\x01"},
		{5, "\x05"},
		{127, "\x7f"},
		{128, "\x80\x01"},
		{300, "\xac\x02"},
		{1<<14 - 1, "\xff\x7f"},
		{1 << 14, "\x80\x80\x01"},
		{1<<56 - 1, "\xff\xff\xff\xff\xff\xff\xff\x7f"},
		{1 << 56, "\x80\x80\x80\x80\x80\x80\x80\x80\x01"},
		{1<<63 - 1, "\xff\xff\xff\xff\xff\xff\xff\xff\x7f"},
		{1 << 63, "\x80\x80\x80\x80\x80\x80\x80\x80\x80\x01"},
		{math.MaxUint64, "\xff\xff\xff\xff\xff\xff\xff\xff\xff\x01"},
	}
}

// integer is an integer and its encoding.
type integer struct {
	n    int
	code string
}

func integers() []integer {
	return []integer{
		{0, "\x00"},
		{-1, "\x01"},
		{1, "\x02"},
		{-3, "\x05"},
		{63, "\x7e"},
		{-64, "\x7f"},
		{64, "\x80\x01"},
		{-65, "\x81\x01"},
		{math.MaxInt, "\xfe\xff\xff\xff\xff\xff\xff\xff\xff\x01"},
		{math.MinInt, "\xff\xff\xff\xff\xff\xff\xff\xff\xff\x01"},
	}
}

// noNumbers returns bytes that do not begin with a number.
func noNumbers() []string {
	return []string{
		"",
		"\x80",
		"\xff\xff",
		"\x80\x00",
		"\x80\x00\x01",
		"\xff\x80\x00",
		"\x80\x80\x80\x80\x80\x80\x80\x80\x80",
		"\x80\x80\x80\x80\x80\x80\x80\x80\x80\x00",
		"\xff\xff\xff\xff\xff\xff\xff\xff\xff\x02",
		"\x80\x80\x80\x80\x80\x80\x80\x80\x80\x7f",
		"\xff\xff\xff\xff\xff\xff\xff\xff\xff\x80",
		"\xff\xff\xff\xff\xff\xff\xff\xff\xff\x81\x00",
		"\x80\x80\x80\x80\x80\x80\x80\x80\x80\x80\x01",
		strings.Repeat("\x80", 100),
	}
}

// texts contains texts of one and of two bytes of length, and some that are not UTF-8.
func texts() []string {
	return []string{"", "a", "abc", "\x00", "\xff\x80", strings.Repeat("x", 127), strings.Repeat("y", 128), strings.Repeat("\x80", 300)}
}

// sameEnd checks that an error stays whatever is called, and that every call returns zero.
func sameEnd(t *testing.T, r *wire.Reader, e api.Errno) {
	t.Helper()
	for range 2 {
		if r.End() != e || r.Left() != 0 || r.Rest() != "" {
			t.Errorf("error %d, want %d; left %d %q", r.End(), e, r.Left(), r.Rest())
		}
		if r.Number() != 0 || r.Int() != 0 || r.Bool() || r.Text(9) != "" || r.Text(-1) != "" || r.Count(9) != 0 || r.Count(-1) != 0 {
			t.Error("a value after the error")
		}
	}
}

func TestAppend(t *testing.T) { // P1.1
	for _, before := range []string{"", "a", "\x80", strings.Repeat("b", 200)} {
		for _, x := range numbers() {
			if s := wire.AppendNumber(before, x.n); s != before+x.code {
				t.Errorf("number %d: %q", x.n, s)
			}
		}
		for _, x := range integers() {
			if s := wire.AppendInt(before, x.n); s != before+x.code {
				t.Errorf("integer %d: %q", x.n, s)
			}
		}
		if s := wire.AppendBool(before, false); s != before+"\x00" {
			t.Errorf("false: %q", s)
		}
		if s := wire.AppendBool(before, true); s != before+"\x01" {
			t.Errorf("true: %q", s)
		}
		for _, text := range texts() {
			if s := wire.AppendText(before, text); s != wire.AppendNumber(before, uint64(len(text)))+text {
				t.Errorf("text %q: %q", text, s)
			}
		}
	}
	if s := wire.AppendText("z", strings.Repeat("y", 300)); !strings.HasPrefix(s, "z\xac\x02yyy") || len(s) != 303 {
		t.Errorf("a text of 300 bytes: %q", s)
	}
}

func TestRead(t *testing.T) { // P1.2, P1.3
	for _, behind := range []string{"", "z", "\x00", "\x80\x00"} {
		left := func(r *wire.Reader) bool { return r.Rest() == behind && r.Left() == len(behind) }
		for _, x := range numbers() {
			r := wire.NewReader(x.code + behind)
			if n := r.Number(); n != x.n || !left(r) {
				t.Errorf("number %d: %d, left %q", x.n, n, r.Rest())
			}
		}
		for _, x := range integers() {
			r := wire.NewReader(x.code + behind)
			if n := r.Int(); n != x.n || !left(r) {
				t.Errorf("integer %d: %d, left %q", x.n, n, r.Rest())
			}
		}
		for code, want := range map[string]bool{"\x00": false, "\x01": true} {
			r := wire.NewReader(code + behind)
			if x := r.Bool(); x != want || !left(r) {
				t.Errorf("truth value %q: %t, left %q", code, x, r.Rest())
			}
		}
		for _, text := range texts() {
			for _, most := range []int{len(text), len(text) + 1, math.MaxInt} {
				r := wire.NewReader(wire.AppendText("", text) + behind)
				if x := r.Text(most); x != text || !left(r) {
					t.Errorf("text %q of at most %d: %q, left %q", text, most, x, r.Rest())
				}
			}
		}
	}
}

func TestCount(t *testing.T) { // P1.2
	for _, x := range []struct {
		code string
		most int
		n    int
		e    api.Errno
	}{
		{"\x00", 0, 0, api.OK},
		{"\x01", 0, 0, api.ErrTooLarge},
		{"\x05", 5, 5, api.OK},
		{"\x05", 6, 5, api.OK},
		{"\x05", 4, 0, api.ErrTooLarge},
		{"\xac\x02", 300, 300, api.OK},
		{"\xac\x02", 299, 0, api.ErrTooLarge},
		{"\x00", -1, 0, api.ErrTooLarge},
		{"\x00", math.MinInt, 0, api.ErrTooLarge},
		{"\xff\xff\xff\xff\xff\xff\xff\xff\x7f", math.MaxInt, math.MaxInt, api.OK},
		{"\x80\x80\x80\x80\x80\x80\x80\x80\x80\x01", math.MaxInt, 0, api.ErrTooLarge},
		{"\xff\xff\xff\xff\xff\xff\xff\xff\xff\x01", math.MaxInt, 0, api.ErrTooLarge},
		{"\xff\xff\xff\xff\xff\xff\xff\xff\xff\x01", -1, 0, api.ErrTooLarge},
	} {
		r := wire.NewReader(x.code)
		if n := r.Count(x.most); n != x.n || r.End() != x.e {
			t.Errorf("%q at most %d: %d, error %d", x.code, x.most, n, r.End())
		}
		if x.e != api.OK {
			r = wire.NewReader(x.code + "\x01\x01")
			r.Count(x.most)
			sameEnd(t, r, x.e)
		}
	}
}

func TestNoNumber(t *testing.T) { // Errors of Number, Int, Count and Text
	for _, s := range noNumbers() {
		for name, read := range map[string]func(r *wire.Reader) bool{
			"Number":             func(r *wire.Reader) bool { return r.Number() == 0 },
			"Int":                func(r *wire.Reader) bool { return r.Int() == 0 },
			"Count":              func(r *wire.Reader) bool { return r.Count(math.MaxInt) == 0 },
			"Count, most is -1":  func(r *wire.Reader) bool { return r.Count(-1) == 0 },
			"Text":               func(r *wire.Reader) bool { return r.Text(math.MaxInt) == "" },
			"Text, most is -1":   func(r *wire.Reader) bool { return r.Text(-1) == "" },
			"Number, then Int":   func(r *wire.Reader) bool { return r.Number() == 0 && r.Int() == 0 },
			"Number, then Count": func(r *wire.Reader) bool { return r.Number() == 0 && r.Count(-1) == 0 },
		} {
			r := wire.NewReader(s)
			if !read(r) {
				t.Errorf("%s of %q is not zero", name, s)
			}
			sameEnd(t, r, api.ErrCorrupt)
		}
	}
}

func TestNoBool(t *testing.T) { // Errors of Bool
	for b := 2; b < 256; b++ {
		r := wire.NewReader(string([]byte{byte(b), 1}))
		if r.Bool() {
			t.Errorf("the byte %d is true", b)
		}
		sameEnd(t, r, api.ErrCorrupt)
	}
	r := wire.NewReader("")
	if r.Bool() {
		t.Error("no byte is true")
	}
	sameEnd(t, r, api.ErrCorrupt)
}

func TestNoText(t *testing.T) { // Errors of Text, in their order
	for _, x := range []struct {
		s    string
		most int
		e    api.Errno
	}{
		{"\x01", 1, api.ErrCorrupt},
		{"\x03ab", 3, api.ErrCorrupt},
		{"\x03ab", 2, api.ErrTooLarge},
		{"\x03abcd", 2, api.ErrTooLarge},
		{"\x00", -1, api.ErrTooLarge},
		{"\x00abc", math.MinInt, api.ErrTooLarge},
		{"\xac\x02" + strings.Repeat("a", 299), 300, api.ErrCorrupt},
		{"\xac\x02" + strings.Repeat("a", 300), 299, api.ErrTooLarge},
		{"\xff\xff\xff\xff\xff\xff\xff\xff\x7fabc", math.MaxInt, api.ErrCorrupt},
		{"\x80\x80\x80\x80\x80\x80\x80\x80\x80\x01abc", math.MaxInt, api.ErrTooLarge},
		{"\xff\xff\xff\xff\xff\xff\xff\xff\xff\x01abc", math.MaxInt, api.ErrTooLarge},
	} {
		r := wire.NewReader(x.s)
		if text := r.Text(x.most); text != "" {
			t.Errorf("%q at most %d: %q", x.s, x.most, text)
		}
		sameEnd(t, r, x.e)
	}
}

func TestFirstErrorStays(t *testing.T) { // Errors
	r := wire.NewReader("\x07\x05abcde\x80\x00")
	if r.Number() != 7 || r.Text(4) != "" {
		t.Error("the values before the error")
	}
	sameEnd(t, r, api.ErrTooLarge)

	r = wire.NewReader("\x07\x80\x00\x05")
	if r.Number() != 7 || r.Number() != 0 || r.Count(4) != 0 {
		t.Error("the values before the error")
	}
	sameEnd(t, r, api.ErrCorrupt)
}

func TestEndChangesNothing(t *testing.T) { // P1.3
	r := wire.NewReader("\x01\x02\x02ab\x05\x06")
	steps := []struct {
		read func() bool
		rest string
	}{
		{func() bool { return r.Left() == 7 }, "\x01\x02\x02ab\x05\x06"},
		{r.Bool, "\x02\x02ab\x05\x06"},
		{func() bool { return r.Number() == 2 }, "\x02ab\x05\x06"},
		{func() bool { return r.Text(2) == "ab" }, "\x05\x06"},
		{func() bool { return r.Int() == -3 }, "\x06"},
		{func() bool { return r.Count(6) == 6 }, ""},
	}
	for i, step := range steps {
		if !step.read() {
			t.Error("step", i, "has another value")
		}
		want := api.ErrCorrupt
		if step.rest == "" {
			want = api.OK
		}
		for range 2 {
			if r.End() != want || r.Rest() != step.rest || r.Left() != len(step.rest) {
				t.Errorf("step %d: error %d, left %d %q", i, r.End(), r.Left(), r.Rest())
			}
		}
	}
	if r.Number() != 0 {
		t.Error("a number of no bytes")
	}
	sameEnd(t, r, api.ErrCorrupt)
}

func TestReadersAreSeparate(t *testing.T) { // Rules: no state but that of the object
	s := "\x01\x02"
	a, b := wire.NewReader(s), wire.NewReader(s)
	a.Bool()
	a.Bool()
	sameEnd(t, a, api.ErrCorrupt)
	if b.Number() != 1 || b.Number() != 2 || b.End() != api.OK || s != "\x01\x02" {
		t.Error("another reader of the same bytes has changed")
	}
}

// value is what one step of a sequence appends and reads.
type value struct {
	append func(s string) string
	read   func(r *wire.Reader) bool // whether the value is the one that was appended
}

func numberValue(n uint64) value {
	return value{func(s string) string { return wire.AppendNumber(s, n) }, func(r *wire.Reader) bool { return r.Number() == n }}
}

func intValue(n int) value {
	return value{func(s string) string { return wire.AppendInt(s, n) }, func(r *wire.Reader) bool { return r.Int() == n }}
}

func boolValue(x bool) value {
	return value{func(s string) string { return wire.AppendBool(s, x) }, func(r *wire.Reader) bool { return r.Bool() == x }}
}

func textValue(text string) value {
	return value{func(s string) string { return wire.AppendText(s, text) }, func(r *wire.Reader) bool { return r.Text(len(text)) == text }}
}

func countValue(n int) value {
	return value{func(s string) string { return wire.AppendNumber(s, uint64(n)) }, func(r *wire.Reader) bool { return r.Count(n) == n }}
}

func anyValue(random *rand.Rand) value {
	n := random.Uint64() >> random.Intn(64)
	switch random.Intn(5) {
	case 0:
		return numberValue(n)
	case 1:
		return intValue(int(n))
	case 2:
		return boolValue(n&1 == 1)
	case 3:
		text := make([]byte, random.Intn(300))
		random.Read(text)
		return textValue(string(text))
	}
	return countValue(int(n >> 1))
}

func TestSequences(t *testing.T) { // P1.4: reading what was appended returns it and leaves nothing
	random := rand.New(rand.NewSource(1))
	for range 500 {
		values := []value{}
		s := ""
		for range random.Intn(8) {
			values = append(values, anyValue(random))
			s = values[len(values)-1].append(s)
		}
		r := wire.NewReader(s)
		for i, v := range values {
			if !v.read(r) {
				t.Fatalf("%q: value %d differs", s, i)
			}
		}
		if r.Left() != 0 || r.End() != api.OK {
			t.Fatalf("%q: left %d, error %d", s, r.Left(), r.End())
		}
		if s == "" {
			continue
		}
		r = wire.NewReader(s[:random.Intn(len(s))])
		for _, v := range values {
			v.read(r)
		}
		sameEnd(t, r, api.ErrCorrupt)
	}
}

// canonical checks that whatever is read from the front of s without an error has the bytes that were read as its encoding.
func canonical(t *testing.T, s string) {
	t.Helper()
	for i, again := range []func(r *wire.Reader) string{
		func(r *wire.Reader) string { return wire.AppendNumber("", r.Number()) },
		func(r *wire.Reader) string { return wire.AppendInt("", r.Int()) },
		func(r *wire.Reader) string { return wire.AppendBool("", r.Bool()) },
		func(r *wire.Reader) string { return wire.AppendText("", r.Text(1000)) },
		func(r *wire.Reader) string { return wire.AppendNumber("", uint64(r.Count(1000))) },
	} {
		r := wire.NewReader(s)
		code := again(r)
		failed := r.End() != api.OK && r.Left() == 0
		if !failed && code+r.Rest() != s {
			t.Errorf("way %d: %q is read, but encoded as %q", i, s[:len(s)-r.Left()], code)
		}
	}
}

func TestCanonical(t *testing.T) { // P1.4, P11: what is read is what would be written
	for a := range 256 {
		canonical(t, string([]byte{byte(a)}))
		for b := range 256 {
			canonical(t, string([]byte{byte(a), byte(b)}))
			for _, c := range []byte{0, 1, 2, 0x7f, 0x80, 0x81, 0xff} {
				canonical(t, string([]byte{byte(a), byte(b), c}))
			}
		}
	}
	for _, s := range noNumbers() {
		canonical(t, s)
	}
}

func TestNoPrefix(t *testing.T) { // P1.4: no encoding is the beginning of another one
	codes := []string{}
	for i := range 64 {
		for d := range uint64(5) {
			codes = append(codes, wire.AppendNumber("", uint64(1)<<i+d-2))
		}
	}
	slices.Sort(codes)
	codes = slices.Compact(codes)
	for i, code := range codes[1:] {
		// In sorted order, a beginning stands right before a text that continues it.
		if strings.HasPrefix(code, codes[i]) {
			t.Errorf("%q begins with %q", code, codes[i])
		}
	}
}

func FuzzReader(f *testing.F) { // P1, P11
	for _, s := range noNumbers() {
		f.Add(s, 3)
	}
	for _, x := range numbers() {
		f.Add(x.code+"abc", math.MinInt)
	}
	f.Fuzz(func(t *testing.T, s string, most int) {
		canonical(t, s)
		r := wire.NewReader(s)
		for r.Left() > 0 {
			before := r.Left()
			r.Text(most)
			r.Count(most)
			r.Bool()
			r.Int()
			r.Number()
			if r.Left() >= before {
				t.Fatalf("nothing of %q was read", s)
			}
		}
	})
}
