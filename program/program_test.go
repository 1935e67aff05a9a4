package program

import (
	"math/rand"
	"regexp"
	"slices"
	"strings"
	"testing"

	"embrace/api"
)

const (
	oneStep = `(?:[.a-fA-F]|[!~][u-z]|\?[u-z][1-9]|[<>][0-9])`
	anyCut  = `(?:[!~<>?]|\?[u-z])?`
)

var (
	whole   = regexp.MustCompile(`\A(?:` + oneStep + `|;)*\z`)
	opening = regexp.MustCompile(`\A(?:` + oneStep + `|;)*` + anyCut + `\z`)
	steps   = regexp.MustCompile(oneStep)
	named   = regexp.MustCompile(`[<>][0-9]`)
)

// expect tells the answer of P3 by another way than Read: by the longest beginning of the text that is the beginning of a program.
func expect(text string) (api.Errno, int) {
	if len(text) > api.MaxText {
		return api.ErrLong, 0
	}
	if !whole.MatchString(text) {
		good := 0
		for good < len(text) && opening.MatchString(text[:good+1]) {
			good++
		}
		return api.ErrText, good
	}
	threads := strings.Split(text, ";")
	for t, thread := range threads {
		if t == api.MaxThreads || len(steps.FindAllString(thread, -1)) > api.MaxSteps {
			return api.ErrMany, t
		}
	}
	for _, at := range named.FindAllStringIndex(text, -1) {
		if int(text[at[0]+1]-'0') >= len(threads) {
			return api.ErrThread, at[0] + 1
		}
	}
	return api.OK, 0
}

func compare(t *testing.T, text string) {
	t.Helper()
	p, errno, place := Read(text)
	wantErrno, wantPlace := expect(text)
	if errno != wantErrno || place != wantPlace {
		t.Fatalf("P3: Read(%q) = %d, %d, want %d, %d", text, errno, place, wantErrno, wantPlace)
	}
	if errno != api.OK && p.Threads() != 0 {
		t.Fatalf("P1: Read(%q) answers an error and a program", text)
	}
}

func TestReadOfAllShortTexts(t *testing.T) {
	compare(t, "")
	for a := range 256 {
		compare(t, string([]byte{byte(a)}))
		for b := range 256 {
			compare(t, string([]byte{byte(a), byte(b)}))
		}
	}
	for _, head := range "?!~<>a;" {
		for a := range 256 {
			for b := range 256 {
				compare(t, string([]byte{byte(head), byte(a), byte(b)}))
			}
		}
	}
}

func TestReadOfDrawnTexts(t *testing.T) {
	r := rand.New(rand.NewSource(3))
	pieces := []string{".", "a", "f", "A", "F", "!u", "~z", "?u1", "?z9", ">0", "<0", ">1", "<4", ">5", "<9", ";", ";", ";"}
	odd := []string{"g", "G", "!", "~", "?", "?w", "?w0", ">", "<", "1", "u", " ", "\x00", "\xff", "!;", "!t", "~{", ">:", "</", "@", "`"}
	var seen [api.ErrThread + 1]int
	for range 40000 {
		b := strings.Builder{}
		rare := 1 + r.Intn(200)
		for range r.Intn(130) {
			if r.Intn(rare) == 0 {
				b.WriteString(odd[r.Intn(len(odd))])
			} else {
				b.WriteString(pieces[r.Intn(len(pieces))])
			}
		}
		compare(t, b.String())
		errno, _ := expect(b.String())
		seen[errno]++
	}
	for errno, n := range seen {
		if n < 50 {
			t.Errorf("only %d of the drawn texts answer %d", n, errno)
		}
	}
}

func TestReadAtTheBounds(t *testing.T) {
	full := strings.Repeat("?u1", 12)
	for _, text := range []string{
		strings.Repeat(".", 12), strings.Repeat(".", 13), full, full + ".",
		strings.Join([]string{full, full, full, full, strings.Repeat(".", 12)}, ";"),
		strings.Repeat("?u1", 53) + ".", strings.Repeat("?u1", 53) + "..", strings.Repeat("?u1", 53) + "?",
		strings.Repeat(";", 160), strings.Repeat(";", 161), strings.Repeat("g", 160), strings.Repeat("g", 161),
		";;;;", ";;;;;", ";;;;" + full + ".", ";;;;;" + full + ".", full + ".;;;;;", ";" + full + ".;;;;", ";;;;>4", ";;;;>5", ">5;;;;;",
	} {
		compare(t, text)
	}
}

func TestSteps(t *testing.T) {
	p, errno, _ := Read(".afAF;;!u~z?u1?z9>0<2")
	if errno != api.OK || p.Threads() != 3 {
		t.Fatalf("P3: %d, %d threads", errno, p.Threads())
	}
	want := [][]Step{
		{{Kind: Nothing}, {Kind: Take}, {Kind: Take, Which: 5}, {Kind: Give}, {Kind: Give, Which: 5}},
		{},
		{{Kind: Set}, {Kind: Clear, Which: 5}, {Kind: Skip, Count: 1}, {Kind: Skip, Which: 5, Count: 9}, {Kind: Start}, {Kind: Join, Which: 2}},
	}
	for thread, row := range want {
		got := []Step{}
		for place := range p.Steps(thread) {
			step, ok := p.Step(thread, place)
			if !ok {
				t.Errorf("no step %d of thread %d", place, thread)
			}
			got = append(got, step)
		}
		if !slices.Equal(got, row) {
			t.Errorf("thread %d: %v, want %v", thread, got, row)
		}
	}
}

func TestNoSuchStep(t *testing.T) {
	p, _, _ := Read("ab;")
	for _, at := range [][2]int{{0, -1}, {0, 2}, {1, 0}, {2, 0}, {-1, 0}} {
		if step, ok := p.Step(at[0], at[1]); ok || step != (Step{}) {
			t.Errorf("P1: thread %d, place %d: %v, %v", at[0], at[1], step, ok)
		}
	}
	if p.Steps(-1) != 0 || p.Steps(2) != 0 {
		t.Error("P1: a thread that is not there has steps")
	}
}
