package fields_test

import (
	"regexp"
	"slices"
	"strings"
	"testing"
	"unsafe"

	"analemma/api"
	"analemma/fields"
	"analemma/sample"
)

// word is a field and the byte at which it begins.
func word(text string, at int) api.Word { return api.Word{Text: text, At: at} }

// texts are the texts of fields.
func texts(l []api.Word) []string {
	var out []string
	for _, w := range l {
		out = append(out, w.Text)
	}
	return out
}

// shared tells whether two texts stand in the same memory.
func shared(a, b string) bool {
	if a == "" || b == "" {
		return false
	}
	x, y := uintptr(unsafe.Pointer(unsafe.StringData(a))), uintptr(unsafe.Pointer(unsafe.StringData(b)))
	return x < y+uintptr(len(b)) && y < x+uintptr(len(a))
}

// linesOf are a text's lines: all between its bytes 0A, but for a last one that is empty.
func linesOf(text string) []string {
	l := strings.Split(text, "\n")
	if l[len(l)-1] == "" {
		l = l[:len(l)-1]
	}
	return l
}

// lined tries Lines with a text.
func lined(t *testing.T, text string) {
	t.Helper()
	if l := fields.Lines(text); !slices.Equal(l, linesOf(text)) {
		t.Fatalf("Lines(%q): %q; must be %q", text, l, linesOf(text))
	}
}

// P8.1, written out: no byte 0A, one at the beginning, at the end, several in a row, and the empty text.
func TestLinesWrittenOut(t *testing.T) {
	for _, x := range []struct {
		text string
		want []string
	}{
		{"", nil},
		{"a", []string{"a"}},
		{"Rule US", []string{"Rule US"}},
		{" ", []string{" "}},
		{"\n", []string{""}},
		{"\n\n", []string{"", ""}},
		{"\n\n\n", []string{"", "", ""}},
		{"\na", []string{"", "a"}},
		{"\n\na", []string{"", "", "a"}},
		{"a\n", []string{"a"}},
		{"a\n\n", []string{"a", ""}},
		{"a\n\n\n", []string{"a", "", ""}},
		{"a\nb", []string{"a", "b"}},
		{"a\nb\n", []string{"a", "b"}},
		{"a\n\nb", []string{"a", "", "b"}},
		{"a\n\n\nb\n", []string{"a", "", "", "b"}},
		{"\na\n", []string{"", "a"}},
		{"a\n ", []string{"a", " "}},
		{"a\n#", []string{"a", "#"}},
		{" a \n\tb\t", []string{" a ", "\tb\t"}},
		{"a\r\nb\r", []string{"a\r", "b\r"}},
		{"\"a\nb\"", []string{"\"a", "b\""}},
		{"#a\nb", []string{"#a", "b"}},
		{"a\vb\fc\u0085d\u2028e\u2029f", []string{"a\vb\fc\u0085d\u2028e\u2029f"}},
		{"a\x00b\n\xff\n\x00", []string{"a\x00b", "\xff", "\x00"}},
		{"a\\nb", []string{"a\\nb"}},
	} {
		if l := fields.Lines(x.text); !slices.Equal(l, x.want) {
			t.Errorf("Lines(%q): %q; must be %q", x.text, l, x.want)
		}
	}
}

// P8.1: all short texts, and each byte.
func TestLines(t *testing.T) {
	sample.Every("\na \r", 7, func(text string) { lined(t, text) })
	for b := range 256 {
		c := string([]byte{byte(b)})
		for _, text := range []string{c, c + c, "a" + c, c + "a", "a" + c + "b", "a\n" + c, c + "\na", "\n" + c + "\n", "\xc3" + c} {
			lined(t, text)
		}
	}
}

// P8.1: texts and lines of any length, beyond the limits of others.
func TestLongLines(t *testing.T) {
	for _, n := range []int{500, 501, 100000, 100001, 1 << 20} {
		a := strings.Repeat("a", n)
		for _, text := range []string{a, a + "\n", a + "\n" + a, "\n" + a, strings.Repeat("\n", n), strings.Repeat("b\n", n), strings.Repeat("\nb", n)} {
			if l := fields.Lines(text); !slices.Equal(l, linesOf(text)) {
				t.Fatalf("Lines of %d bytes: %d lines; must be %d", len(text), len(l), len(linesOf(text)))
			}
		}
	}
}

// The kinds of bytes of a line.
const (
	isBlank = iota
	isQuote
	isRemark
	isPlain
	isWrong
)

// kindOf is a byte's kind.
func kindOf(c byte) int {
	switch {
	case c == 0x20 || c == 0x09:
		return isBlank
	case c == 0x22:
		return isQuote
	case c == 0x23:
		return isRemark
	case c >= 0x21 && c <= 0x7e:
		return isPlain
	}
	return isWrong
}

// Where a byte of a line stands, or that it may not.
const (
	between = iota
	inPlain
	inQuoted
	behindQuoted
	inRemark
	nowhere
)

// stands is where a byte of each kind stands behind one that stands somewhere.
var stands = [5][5]int{
	between:      {isBlank: between, isQuote: inQuoted, isRemark: inRemark, isPlain: inPlain, isWrong: nowhere},
	inPlain:      {isBlank: between, isQuote: nowhere, isRemark: inRemark, isPlain: inPlain, isWrong: nowhere},
	inQuoted:     {isBlank: inQuoted, isQuote: behindQuoted, isRemark: inQuoted, isPlain: inQuoted, isWrong: nowhere},
	behindQuoted: {isBlank: between, isQuote: nowhere, isRemark: inRemark, isPlain: nowhere, isWrong: nowhere},
	inRemark:     {isBlank: inRemark, isQuote: inRemark, isRemark: inRemark, isPlain: inRemark, isWrong: inRemark},
}

// answer is what Split answers.
type answer struct {
	l  []api.Word
	at int
	e  api.Errno
}

// split is what Split must answer, by the words: byte by byte, each by where the one ahead of it stands.
func split(line string) answer {
	if len(line) > 500 {
		return answer{at: 500, e: api.ErrMany}
	}
	var l []api.Word
	state := between
	for i := range len(line) {
		last := state
		state = stands[last][kindOf(line[i])]
		if last == inQuoted && line[i] == 0x09 {
			state = nowhere
		}
		switch {
		case last == between && state == inQuoted && !strings.Contains(line[i+1:], "\""):
			return answer{at: i, e: api.ErrForm}
		case last == between && (state == inQuoted || state == inPlain):
			if len(l) == 16 {
				return answer{at: i, e: api.ErrMany}
			}
			l = append(l, word("", i))
		case state == nowhere:
			return answer{at: i, e: api.ErrForm}
		}
		if state == inPlain || state == inQuoted && last == inQuoted {
			l[len(l)-1].Text += line[i : i+1]
		}
	}
	return answer{l: l}
}

// cut tries Split with a line.
func cut(t *testing.T, line string) {
	t.Helper()
	want := split(line)
	l, at, e := fields.Split(line)
	if !slices.Equal(l, want.l) || at != want.at || e != want.e {
		t.Fatalf("Split(%q): %v, %d, %d; must be %v, %d, %d", line, l, at, e, want.l, want.at, want.e)
	}
	if e != api.OK && len(l) != 0 || e == api.OK && at != 0 {
		t.Fatalf("Split(%q): %v, %d beside %d", line, l, at, e)
	}
}

// P8.2, written out: lines without fields, blanks of both kinds, remarks, plain fields and fields between two ".
func TestSplitWrittenOut(t *testing.T) {
	for _, x := range []struct {
		line string
		want []api.Word
	}{
		{"", nil},
		{" ", nil},
		{"\t", nil},
		{" \t \t", nil},
		{"#", nil},
		{"# a b", nil},
		{"  # a", nil},
		{"\t#a", nil},
		{"#\"", nil},
		{"#\x00\n\x7f\xff", nil},
		{"a", []api.Word{word("a", 0)}},
		{"ab", []api.Word{word("ab", 0)}},
		{"a b", []api.Word{word("a", 0), word("b", 2)}},
		{"a\tb", []api.Word{word("a", 0), word("b", 2)}},
		{"a \t b", []api.Word{word("a", 0), word("b", 4)}},
		{" a", []api.Word{word("a", 1)}},
		{"\t\ta", []api.Word{word("a", 2)}},
		{"a ", []api.Word{word("a", 0)}},
		{"a\t", []api.Word{word("a", 0)}},
		{" a\tb ", []api.Word{word("a", 1), word("b", 3)}},
		{"a a a", []api.Word{word("a", 0), word("a", 2), word("a", 4)}},
		{"!~ $%&'()*+,-./", []api.Word{word("!~", 0), word("$%&'()*+,-./", 3)}},
		{"Rule US 2007 max - Mar Sun>=8 2:00 1:00 D", []api.Word{
			word("Rule", 0), word("US", 5), word("2007", 8), word("max", 13), word("-", 17),
			word("Mar", 19), word("Sun>=8", 23), word("2:00", 30), word("1:00", 35), word("D", 40),
		}},
		{"Zone\tNY\t-5:00\tUS\tE%sT", []api.Word{word("Zone", 0), word("NY", 5), word("-5:00", 8), word("US", 14), word("E%sT", 17)}},
		{"a#", []api.Word{word("a", 0)}},
		{"a#b", []api.Word{word("a", 0)}},
		{"a#b c", []api.Word{word("a", 0)}},
		{"a #b", []api.Word{word("a", 0)}},
		{"a\t# b", []api.Word{word("a", 0)}},
		{"a b#", []api.Word{word("a", 0), word("b", 2)}},
		{"a##", []api.Word{word("a", 0)}},
		{"a # \"b", []api.Word{word("a", 0)}},
		{"a # \"b\"", []api.Word{word("a", 0)}},
		{"a#\"", []api.Word{word("a", 0)}},
		{"a #\x00\n\x7f\x80\xff", []api.Word{word("a", 0)}},
		{"\"\"", []api.Word{word("", 0)}},
		{"\"\" \"\"", []api.Word{word("", 0), word("", 3)}},
		{" \"\"", []api.Word{word("", 1)}},
		{"\"\"#", []api.Word{word("", 0)}},
		{"\"a\"", []api.Word{word("a", 0)}},
		{"\" \"", []api.Word{word(" ", 0)}},
		{"\"a b\"", []api.Word{word("a b", 0)}},
		{"\" a  b \"", []api.Word{word(" a  b ", 0)}},
		{"\"#\"", []api.Word{word("#", 0)}},
		{"\"a#b\"", []api.Word{word("a#b", 0)}},
		{"\"a # b\" c", []api.Word{word("a # b", 0), word("c", 8)}},
		{"\"a\"#b", []api.Word{word("a", 0)}},
		{"\"a\" # b", []api.Word{word("a", 0)}},
		{"\"a\"#\"", []api.Word{word("a", 0)}},
		{"\"a\"\t\"b\"", []api.Word{word("a", 0), word("b", 4)}},
		{"a \"b\" c", []api.Word{word("a", 0), word("b", 2), word("c", 6)}},
		{"\t\"a b\"\tc", []api.Word{word("a b", 1), word("c", 7)}},
		{"\"!$~\"", []api.Word{word("!$~", 0)}},
		{"\"\\\" n", []api.Word{word("\\", 0), word("n", 4)}},
		{"'a b'", []api.Word{word("'a", 0), word("b'", 3)}},
	} {
		if l, at, e := fields.Split(x.line); !slices.Equal(l, x.want) || at != 0 || e != api.OK {
			t.Errorf("Split(%q): %v, %d, %d; must be %v", x.line, l, at, e, x.want)
		}
	}
}

// P8.2, written out: each way in which a line is wrong, and the first of two that are.
func TestSplitRefusesWrittenOut(t *testing.T) {
	for _, x := range []struct {
		line string
		at   int
	}{
		// A byte that may stand neither in a field nor between fields.
		{"\n", 0}, {"\r", 0}, {"\x00", 0}, {"\x1f", 0}, {"\x7f", 0}, {"\x80", 0}, {"\xff", 0},
		{" \x01", 1}, {"a\x01", 1}, {"a \x01", 2}, {"a\x01b", 1}, {"a\r", 1}, {"a b\n", 3}, {"a\u00e4", 1}, {"a\u00a0b", 1}, {"a\v", 1},
		{"\"\x01\"", 1}, {"\"a\x01\"", 2}, {"\"a\nb\"", 2}, {"\"a\x7f\"", 2}, {"\"\u00e4\"", 1}, {"a \"b\x00\" c", 4},
		{"\"\t\"", 1}, {"\"a\tb\"", 2}, {"\"a b\t\"", 4},
		{"\x01#", 0}, {"a\x01#", 1},
		// A " that has bytes of a field right ahead of it.
		{"a\"", 1}, {"a\"b", 1}, {"ab\"c\"", 2}, {"a\"\"", 1}, {"x a\"b\"", 3}, {"!\"", 1}, {"~\" a", 1},
		// The first of two ", where there is no second one.
		{"\"", 0}, {"\"ab", 0}, {" \"", 1}, {"a \"", 2}, {"a \"b c", 2}, {"\"a#", 0}, {"\"a # b", 0}, {"\"#", 0}, {"\"\" \"", 3}, {"\"a\" \"b", 4}, {"\"a\tb", 0},
		// The byte behind the second ".
		{"\"a\"b", 3}, {"\"\"b", 2}, {"\"\"\"", 2}, {"\"\"\"\"", 2}, {"\"a\"\"b\"", 3}, {"\"a\"\x01", 3}, {"\"a\"!", 3}, {"\"a\"\n", 3}, {"\"a\"\xff", 3}, {"x \"a\"b", 5}, {"\"a\"\"", 3},
		// The first of two that are wrong.
		{"a\"b\x01", 1}, {"\x01a\"", 0}, {"a\x01\"", 1}, {"\x01 \"a", 0}, {"a\" \"b", 1}, {"\"a\"b\x01", 3}, {"\"a\x01\"b", 2}, {"\"a\x01", 0}, {"\"\x01b c", 0},
		{"\"#\x01", 0}, {"\"a\"b \"", 3}, {"\"\x01\x02\"", 1}, {"\x01\x02", 0}, {"a\"b c\"", 1}, {"\"a\" b\" \"c", 5}, {"\"a\t\x01\"", 2}, {"\"a\x01\t\"", 2},
	} {
		if l, at, e := fields.Split(x.line); len(l) != 0 || at != x.at || e != api.ErrForm {
			t.Errorf("Split(%q): %v, %d, %d; must be %d", x.line, l, at, e, x.at)
		}
	}
}

// P8.2: all short lines of bytes of all kinds.
func TestSplit(t *testing.T) {
	sample.Every(" \t\"#a\x01", 7, func(line string) { cut(t, line) })
	sample.Every("\"#! \xff~", 6, func(line string) { cut(t, line) })
}

// P8.2: each byte at each place where one may stand.
func TestSplitEachByte(t *testing.T) {
	for b := range 256 {
		c := string([]byte{byte(b)})
		for _, line := range []string{
			c, c + c, c + "a", "a" + c, "a" + c + "b", "a " + c, "a " + c + " b", " " + c + " ", "\"" + c, "\"" + c + "\"", "\"a" + c + "b\"",
			"\"a\"" + c, "\"a\"" + c + "b", "\"\"" + c, "\"a\" " + c, "#" + c, "a#" + c, "a # b" + c + "c", "\"a\"#" + c, "\"#" + c + "\"", "a\"" + c, c + "\"", c + "\"a\"", c + "#", "\"a#" + c,
		} {
			cut(t, line)
		}
	}
}

// P8.2: longer lines, made of pieces by a fixed rule.
func TestSplitLongerLines(t *testing.T) {
	pieces := []string{"a", "Rule", " ", " ", "\t", "\"", "\"\"", "\"b c\"", "\"#\"", " x", " \"y\" ", "  ", "#", "\x01", "-5:00", "\xc3\xa4"}
	bits := sample.Bits(60000)
	for len(bits) >= 3 {
		var line strings.Builder
		for i := range 3 + int(bits[0]%40) {
			n := bits[1+i/16%2] >> (i % 16 * 4) & 15
			line.WriteString(pieces[int(n)%(1+int(bits[0]>>8%16))])
		}
		cut(t, line.String())
		bits = bits[3:]
	}
}

// P8.2: lines of 500 bytes and of 501, whatever stands in them.
func TestSplitLongLines(t *testing.T) {
	a := strings.Repeat("a", 600)
	blanks := strings.Repeat(" \t", 300)
	for _, n := range []int{499, 500, 501, 502, 600} {
		for _, line := range []string{
			a[:n], blanks[:n], "#" + a[:n-1], "\"" + a[:n-2] + "\"", "\"" + blanks[:1] + a[:n-3] + "\"", "x" + blanks[:n-2] + "y", "x #" + a[:n-3], a[:n-1] + "#", a[:n-1] + " ",
			"\x01" + a[:n-1], a[:n-1] + "\x01", a[:n-1] + "\"", "\"" + a[:n-1], "a\"" + a[:n-2], "\"a\"" + a[:n-3], strings.Repeat("a ", 300)[:n],
		} {
			cut(t, line)
			if l, at, e := fields.Split(line); n > 500 && (len(l) != 0 || at != 500 || e != api.ErrMany) || n <= 500 && e == api.ErrMany && at == 500 {
				t.Fatalf("Split of %d bytes: %v, %d, %d", len(line), l, at, e)
			}
		}
	}
	if l, at, e := fields.Split(a[:500]); !slices.Equal(l, []api.Word{word(a[:500], 0)}) || at != 0 || e != api.OK {
		t.Error(l, at, e)
	}
	if l, at, e := fields.Split("\"" + a[:498] + "\""); !slices.Equal(l, []api.Word{word(a[:498], 0)}) || at != 0 || e != api.OK {
		t.Error(l, at, e)
	}
	if l, at, e := fields.Split(strings.Repeat("\x01", 1<<20)); len(l) != 0 || at != 500 || e != api.ErrMany {
		t.Error(l, at, e)
	}
}

// sixteen are the texts of sixteen fields.
func sixteen() []string {
	return strings.Fields("a b c d e f g h i j k l m n o p")
}

// P8.2, written out: sixteen fields and what stands behind them.
func TestSplitManyWrittenOut(t *testing.T) {
	line := strings.Join(sixteen(), " ") // of 31 bytes
	for _, x := range []struct {
		tail string
		at   int
		e    api.Errno
	}{
		{"", 0, api.OK}, {" ", 0, api.OK}, {"\t \t", 0, api.OK}, {"#", 0, api.OK}, {" # q", 0, api.OK}, {" #\"\x01", 0, api.OK}, {"q", 0, api.OK},
		{" q", 32, api.ErrMany}, {"\tq", 32, api.ErrMany}, {"   q", 34, api.ErrMany}, {" q ", 32, api.ErrMany}, {" q#", 32, api.ErrMany}, {" q r", 32, api.ErrMany},
		{" \"\"", 32, api.ErrMany}, {" \"q\"", 32, api.ErrMany}, {" \"#\" r", 32, api.ErrMany}, {"  \"q r\"", 33, api.ErrMany},
		// What is wrong behind the beginning of a seventeenth field comes later than that.
		{" q\"", 32, api.ErrMany}, {" q\x01", 32, api.ErrMany}, {" \"q\"r", 32, api.ErrMany}, {" \"q\x01\"", 32, api.ErrMany}, {" \"\t\"", 32, api.ErrMany},
		{" q \"", 32, api.ErrMany}, {" q \x01", 32, api.ErrMany}, {" q r\"", 32, api.ErrMany}, {" \"q\" \"r\"s", 32, api.ErrMany},
		// What is wrong ahead of it, or at the byte itself, is told.
		{"\"", 31, api.ErrForm}, {"\x01", 31, api.ErrForm}, {"\x01 q", 31, api.ErrForm}, {"\"q\" r", 31, api.ErrForm},
		{" \x01", 32, api.ErrForm}, {" \x01 q", 32, api.ErrForm}, {" \xff", 32, api.ErrForm}, {" \"", 32, api.ErrForm}, {" \"q r", 32, api.ErrForm}, {" \"q\x01", 32, api.ErrForm}, {" \x01\"", 32, api.ErrForm},
	} {
		l, at, e := fields.Split(line + x.tail)
		if at != x.at || e != x.e || e == api.OK && len(l) != 16 || e != api.OK && len(l) != 0 {
			t.Errorf("Split(%q): %v, %d, %d; must be %d, %d", line+x.tail, l, at, e, x.at, x.e)
		}
	}
}

// P8.2: fourteen fields to eighteen, plain and between two ", and all short rows of bytes behind them.
func TestSplitMany(t *testing.T) {
	for n := 14; n <= 18; n++ {
		for _, field := range []string{"a", "\"\"", "\"b c\"", "\"#\""} {
			line := strings.TrimSpace(strings.Repeat(field+" ", n))
			cut(t, line)
			sample.Every(" \"#a\x01", 5, func(tail string) { cut(t, line+tail) })
		}
	}
	cut(t, strings.Repeat("a ", 250))
	cut(t, strings.Repeat("a ", 15)+strings.Repeat("b", 470))
	cut(t, "\x01 "+strings.Repeat("a ", 20))
	cut(t, strings.Repeat("a ", 16)+strings.Repeat("\t", 467)+"b")
	cut(t, strings.Repeat("a ", 16)+strings.Repeat("\t", 468)+"b")
}

// The fields that stand by themselves, and all that may be joined.
var (
	plainText  = regexp.MustCompile(`^[!$-~]+$`)
	quotedText = regexp.MustCompile(`^[ !#-~]*$`)
)

// join is what Join must answer, by the words.
func join(l []string) (string, api.Errno) {
	words := slices.Clone(l)
	for i, text := range l {
		if !quotedText.MatchString(text) {
			return "", api.ErrForm
		}
		if !plainText.MatchString(text) {
			words[i] = "\"" + text + "\""
		}
	}
	line := strings.Join(words, " ")
	if len(l) > 16 || len(line) > 500 {
		return "", api.ErrMany
	}
	return line, api.OK
}

// joined tries Join with some texts, and splits what it answers.
func joined(t *testing.T, l ...string) {
	t.Helper()
	want, err := join(l)
	line, e := fields.Join(l)
	if line != want || e != err {
		t.Fatalf("Join(%q): %q, %d; must be %q, %d", l, line, e, want, err)
	}
	if e != api.OK {
		return
	}
	if words, at, e := fields.Split(line); !slices.Equal(texts(words), l) || at != 0 || e != api.OK {
		t.Fatalf("Split(%q): %v, %d, %d; must be %q", line, words, at, e, l)
	}
}

// P8.3, written out.
func TestJoinWrittenOut(t *testing.T) {
	for _, x := range []struct {
		l    []string
		want string
		e    api.Errno
	}{
		{nil, "", api.OK},
		{[]string{}, "", api.OK},
		{[]string{""}, "\"\"", api.OK},
		{[]string{"", ""}, "\"\" \"\"", api.OK},
		{[]string{"a"}, "a", api.OK},
		{[]string{"a", "b"}, "a b", api.OK},
		{[]string{"Rule", "US", "-5:00", "E%sT", "Sun>=8"}, "Rule US -5:00 E%sT Sun>=8", api.OK},
		{[]string{"!$~", "'", "\\"}, "!$~ ' \\", api.OK},
		{[]string{" "}, "\" \"", api.OK},
		{[]string{"a b"}, "\"a b\"", api.OK},
		{[]string{" a"}, "\" a\"", api.OK},
		{[]string{"a "}, "\"a \"", api.OK},
		{[]string{"#"}, "\"#\"", api.OK},
		{[]string{"a#b"}, "\"a#b\"", api.OK},
		{[]string{"a#", "b"}, "\"a#\" b", api.OK},
		{[]string{"a", "", "b c", "#", "d"}, "a \"\" \"b c\" \"#\" d", api.OK},
		{[]string{"\""}, "", api.ErrForm},
		{[]string{"a\"b"}, "", api.ErrForm},
		{[]string{"\"a\""}, "", api.ErrForm},
		{[]string{"a", "b\""}, "", api.ErrForm},
		{[]string{"\t"}, "", api.ErrForm},
		{[]string{"a\tb"}, "", api.ErrForm},
		{[]string{"a\n"}, "", api.ErrForm},
		{[]string{"\x1f"}, "", api.ErrForm},
		{[]string{"\x7f"}, "", api.ErrForm},
		{[]string{"a", "\x80", "b"}, "", api.ErrForm},
		{[]string{"\xff"}, "", api.ErrForm},
		{[]string{"\u00e4"}, "", api.ErrForm},
		{[]string{"\x00"}, "", api.ErrForm},
	} {
		if line, e := fields.Join(x.l); line != x.want || e != x.e {
			t.Errorf("Join(%q): %q, %d; must be %q, %d", x.l, line, e, x.want, x.e)
		}
	}
}

// P8.3, P8.4: each byte, alone and within a text, and all short texts.
func TestJoin(t *testing.T) {
	for b := range 256 {
		c := string([]byte{byte(b)})
		joined(t, c)
		joined(t, "a"+c+"b", "c")
		joined(t, "a", c+"b", "")
		joined(t, "", "a"+c)
	}
	var l []string
	sample.Every(" #a~\"\x01", 3, func(text string) {
		joined(t, text)
		joined(t, text, "b", text)
		l = append(l, text)
	})
	for _, a := range l {
		for i, b := range l {
			joined(t, a, b)
			if i%7 == 0 {
				joined(t, a, b, a)
			}
		}
	}
}

// many are so many times a text.
func many(text string, n int) []string { return slices.Repeat([]string{text}, n) }

// P8.3, P8.4: sixteen fields and seventeen, lines of 500 bytes and of 501, and a text that may not be among them.
func TestJoinMany(t *testing.T) {
	for _, text := range []string{"", "a", "b c", "#"} {
		for n := 14; n <= 18; n++ {
			joined(t, many(text, n)...)
			joined(t, append(many(text, n), "\"")...)
			joined(t, append([]string{"\x01"}, many(text, n)...)...)
		}
	}
	for _, n := range []int{490, 495, 496, 497, 498, 499, 500, 501, 502, 600} {
		a := strings.Repeat("a", n)
		joined(t, a)
		joined(t, a[:n-2], "b")
		joined(t, " "+a[:n-3])
		joined(t, "#"+a[:n-3])
		joined(t, "", a[:n-3])
		joined(t, a[:n-30], a[:10], "#"+a[:10])
		joined(t, append(many("a", 15), a[:n-30])...)
		joined(t, a, "\"")
		joined(t, a+"\x7f")
	}
	for n := 29; n <= 33; n++ {
		joined(t, many(strings.Repeat("a", n), 16)...)
		joined(t, append(many(strings.Repeat("a", n), 15), "b c")...)
	}
}

// P8.3, written out: the limits.
func TestJoinManyWrittenOut(t *testing.T) {
	a := strings.Repeat("a", 600)
	refused := func(err api.Errno, l ...string) {
		t.Helper()
		if line, e := fields.Join(l); line != "" || e != err {
			t.Errorf("Join of %d texts: %q, %d; must be %d", len(l), line, e, err)
		}
	}
	made := func(want string, l ...string) {
		t.Helper()
		if line, e := fields.Join(l); line != want || e != api.OK {
			t.Errorf("Join of %d texts: %q, %d; must be %q", len(l), line, e, want)
		}
	}
	made("a b c d e f g h i j k l m n o p", sixteen()...)
	refused(api.ErrMany, append(sixteen(), "q")...)
	refused(api.ErrMany, append(sixteen(), "")...)
	refused(api.ErrForm, append(sixteen(), "\"")...)
	refused(api.ErrForm, append(many("a", 1000), "\x01")...)
	refused(api.ErrMany, many("", 100000)...)
	made(a[:500], a[:500])
	refused(api.ErrMany, a[:501])
	made("\""+a[:497]+" \"", a[:497]+" ")
	refused(api.ErrMany, a[:498]+" ")
	made("b "+a[:498], "b", a[:498])
	refused(api.ErrMany, "b", a[:499])
	made("\"\" "+a[:497], "", a[:497])
	refused(api.ErrMany, "", a[:498])
	refused(api.ErrForm, a[:501]+"\"")
	refused(api.ErrForm, a, "\t")
	refused(api.ErrForm, "\x80", a)
}

// P8.4: what was split, joined, is split into the same texts.
func TestSplitJoinedSplit(t *testing.T) {
	sample.Every(" \t\"#a", 6, func(line string) {
		l, _, e := fields.Split(line)
		if e != api.OK {
			return
		}
		again, e := fields.Join(texts(l))
		if e != api.OK {
			t.Fatalf("Join of %q's: %q, %d", line, again, e)
		}
		if m, at, e := fields.Split(again); !slices.Equal(texts(m), texts(l)) || at != 0 || e != api.OK {
			t.Fatalf("Split(%q): %v, %d, %d; of %q %v", again, m, at, e, line, l)
		}
	})
}

// P8.5: fields, right ones and wrong ones, with other blanks between them and a remark at the end.
func TestBlanksAndRemarksTurnNothing(t *testing.T) {
	right := []string{"a", "Sun>=8", "\"\"", "\"b c\"", "\"#\"", "!"}
	wrong := []string{"a\"", "\"b", "\"b\"c", "\x01", "a\x7f", "\"b\x01\""}
	blanks := []string{" ", "\t", "  ", " \t", "\t\t ", "      "}
	remarks := []string{"", "#", "#a", "# a b", "##", "#\x01\xff\n", "#\t"}
	for i, b := range sample.Bits(4000) {
		var l []string
		for n := range int(b % 18) {
			l = append(l, right[int(b>>(8+n))%len(right)])
		}
		if i%2 == 1 {
			l = append(l, wrong[int(b>>40)%len(wrong)])
		}
		line, first := laid(l, func(int) string { return " " })
		more, then := laid(l, func(n int) string { return blanks[int(b>>(20+n))%len(blanks)] })
		for _, tail := range []string{"", " ", "\t "} {
			for _, note := range remarks {
				moved(t, line, more+tail+note, first, then)
			}
		}
	}
}

// laid is a line of fields as they stand in one, with blanks ahead of each, and the byte at which each begins.
func laid(l []string, blanks func(n int) string) (string, []int) {
	line, places := "", []int{}
	for n, field := range l {
		line += blanks(n)
		places = append(places, len(line))
		line += field
	}
	return line, places
}

// moved tries Split with two lines that must be told alike, but for the places at which their fields begin.
func moved(t *testing.T, a, b string, from, to []int) {
	t.Helper()
	l, i, e := fields.Split(a)
	m, j, err := fields.Split(b)
	if e != err || !slices.Equal(texts(l), texts(m)) {
		t.Fatalf("Split(%q): %v, %d; Split(%q): %v, %d", a, l, e, b, m, err)
	}
	for n := range l {
		if l[n].At != from[n] || m[n].At != to[n] {
			t.Fatalf("Split(%q): %v; Split(%q): %v", a, l, b, m)
		}
	}
	if e == api.OK {
		return
	}
	// A wrong byte is as far behind the beginning of its field as it was.
	n := len(from) - 1
	for from[n] > i {
		n--
	}
	if j-to[n] != i-from[n] {
		t.Fatalf("Split(%q): %d, %d; Split(%q): %d, %d", a, i, e, b, j, err)
	}
}

// Rule 4: what is handed in is not changed, its spare room neither, and an answer is new memory.
func TestMemory(t *testing.T) {
	room := []string{"a", "b c", "", "spare", "\""}
	if line, e := fields.Join(room[:3]); line != "a \"b c\" \"\"" || e != api.OK || !slices.Equal(room, []string{"a", "b c", "", "spare", "\""}) {
		t.Error(line, e, room)
	}
	one := strings.Repeat("a", 20)
	if line, _ := fields.Join([]string{one}); line != one || shared(line, one) {
		t.Error("Join answers what was handed in")
	}
	text := strings.Repeat("Rule \"a b\" c\n", 3)
	l, m := fields.Lines(text), fields.Lines(text)
	for i := range l {
		if shared(l[i], text) || shared(l[i], m[i]) || shared(l[i], l[(i+1)%3]) {
			t.Error("Lines answers memory that it shares")
		}
	}
	l = append(l[:1], "x", "y", "z")
	if !slices.Equal(m, linesOf(text)) || !slices.Equal(fields.Lines(text), m) {
		t.Error(l, m)
	}
	v, _, _ := fields.Split(m[0])
	w, _, _ := fields.Split(m[0])
	for i := range v {
		if shared(v[i].Text, m[0]) || shared(v[i].Text, w[i].Text) {
			t.Error("Split answers memory that it shares")
		}
	}
	v = append(v[:0], word("x", 1), word("y", 2), word("z", 3), word("q", 4))
	if want := []api.Word{word("Rule", 0), word("a b", 5), word("c", 11)}; !slices.Equal(w, want) {
		t.Error(v, w)
	}
}

// Rule 6: an answer doesn't hang on what was asked ahead of it.
func TestAskedAgain(t *testing.T) {
	for range 3 {
		cut(t, "a \"b c\" # d")
		cut(t, "a \"b c")
		cut(t, strings.Repeat("a ", 17))
		cut(t, strings.Repeat("a", 501))
		joined(t, "a", "b c", "")
		joined(t, "a", "\"")
		joined(t, many("a", 17)...)
		lined(t, "a\n\nb")
	}
}

// The chapter's examples.
func TestExamples(t *testing.T) {
	if l, at, e := fields.Split("Rule\t\"a b\" x#y"); !slices.Equal(l, []api.Word{word("Rule", 0), word("a b", 5), word("x", 11)}) || at != 0 || e != api.OK {
		t.Error(l, at, e)
	}
	for _, x := range []struct {
		line string
		at   int
	}{{"a\"b", 1}, {"\"ab", 0}, {"\"a\"b", 3}} {
		if l, at, e := fields.Split(x.line); len(l) != 0 || at != x.at || e != api.ErrForm {
			t.Errorf("Split(%q): %v, %d, %d", x.line, l, at, e)
		}
	}
}
