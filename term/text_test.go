package term

import (
	"fmt"
	"math/rand"
	"regexp"
	"runtime"
	"slices"
	"strings"
	"testing"

	"sacristy/api"
)

// step is the least text of a term whose kids are written as T: put T in its place again and again, and whatever is a
// term's text ends as T. (seal stands ahead of the pair that it looks like.)
var step = regexp.MustCompile(`[nk](0|[1-9][0-9]?)|seal\(T,T\)|\(T,T\)|d(0|[1-9][0-9]?)\(T\)`)

// modelText tells whether s is a term's text, and of how many terms.
func modelText(s string) (bool, int) {
	if strings.Contains(s, "T") {
		return false, 0
	}
	terms := 0
	for step.MatchString(s) {
		terms += len(step.FindAllString(s, -1))
		s = step.ReplaceAllString(s, "T")
	}
	return s == "T" && terms <= 60, terms
}

func modelPrint(t api.Term) string {
	switch t.Kind {
	case api.TName:
		return fmt.Sprintf("n%d", t.N)
	case api.TKey:
		return fmt.Sprintf("k%d", t.N)
	case api.TSeal:
		return fmt.Sprintf("seal(%s,%s)", modelPrint(t.Kids[0]), modelPrint(t.Kids[1]))
	case api.TPair:
		return fmt.Sprintf("(%s,%s)", modelPrint(t.Kids[0]), modelPrint(t.Kids[1]))
	}
	return fmt.Sprintf("d%d(%s)", t.N, modelPrint(t.Kids[0]))
}

// reads holds Parse of s against the model.
func reads(t *testing.T, s string) bool {
	t.Helper()
	want, terms := modelText(s)
	x, e := Parse(s)
	if !want && (e != api.ErrForm || x.Kind != 0 || x.N != 0 || x.Kids != nil) {
		t.Fatalf("P14.2: Parse(%q): %v, %v", s, x, e)
	}
	if want && (e != api.OK || !Is(x) || Count(x) != terms || Print(x) != s || modelPrint(x) != s) {
		t.Fatalf("P14.2: Parse(%q): %v, %v", s, x, e)
	}
	return want
}

func TestExample(t *testing.T) {
	want := sealed(key(1), name(2))
	if x, e := Parse("seal(k1,n2)"); e != api.OK || !modelSame(x, want) || Print(want) != "seal(k1,n2)" {
		t.Errorf("P14.2: %v, %v, %q", x, e, Print(want))
	}
}

func TestNumbersAsTexts(t *testing.T) {
	for n := range 100 {
		for _, x := range []api.Term{name(n), key(n), derived(n, key(n))} {
			s := modelPrint(x)
			if y, e := Parse(s); Print(x) != s || e != api.OK || !modelSame(x, y) {
				t.Errorf("P14.2: %q: %q, %v, %v", s, Print(x), y, e)
			}
		}
	}
	for _, number := range []string{"", "00", "01", "007", "09", "099", "100", "101", "999", "-0", "-1", "+1", "1.", "1e1", "0x1", "1_0", " 1", "1 ", "\u0661", "4294967296", "18446744073709551616", "18446744073709551617", "9223372036854775808", strings.Repeat("0", 1000), strings.Repeat("9", 1000)} {
		for _, form := range []string{"n%s", "k%s", "d%s(k1)", "(k1,n%s)", "seal(k%s,n1)"} {
			if reads(t, fmt.Sprintf(form, number)) {
				t.Errorf("P14.2: the model takes %q", number)
			}
		}
	}
}

func TestPrintedIsReadAsTheSame(t *testing.T) {
	check := func(x api.Term) {
		t.Helper()
		if is, _ := model(x); !is {
			if s := Print(x); s != "" {
				t.Fatalf("P14.2: Print(%v): %q", x, s)
			}
			return
		}
		s := Print(x)
		if s != modelPrint(x) {
			t.Fatalf("P14.2: Print(%v): %q", x, s)
		}
		if y, e := Parse(s); e != api.OK || !modelSame(x, y) || !Same(x, y) || Print(y) != s {
			t.Fatalf("P14.3: %q is read as %v, %v", s, y, e)
		}
	}
	for _, x := range few() {
		check(x)
	}
	r := rand.New(rand.NewSource(3))
	for range 20000 {
		x := random(r, 1+r.Intn(65))
		check(x)
		check(spoilt(r, x))
	}
}

func TestUnlikeTermsHaveUnlikeTexts(t *testing.T) {
	terms := map[string]api.Term{}
	for _, x := range few() {
		if is, _ := model(x); !is {
			continue
		}
		if y, ok := terms[Print(x)]; ok && !modelSame(x, y) {
			t.Fatalf("P14.3: %q is of %v and of %v", Print(x), x, y)
		}
		terms[Print(x)] = x
	}
	if len(terms) < 200 {
		t.Errorf("only %d terms", len(terms))
	}
}

func TestAllShortTexts(t *testing.T) {
	pieces := []string{"n", "d", "seal(", "(", ")", ",", "0", "1", "n1", "k0", "d5(", " "}
	texts, taken := []string{""}, 0
	for range 6 {
		var longer []string
		for _, s := range texts {
			if reads(t, s) {
				taken++
			}
			for _, p := range pieces {
				longer = append(longer, s+p)
			}
		}
		slices.Sort(longer)
		texts = slices.Compact(longer)
	}
	if taken < 20 {
		t.Errorf("only %d terms' texts", taken)
	}
}

func TestTextsWithAByteChanged(t *testing.T) {
	taken := 0
	for _, s := range []string{"n0", "k99", "d10(n1)", "seal(k1,n2)", "(n1,k22)", "seal(d1(k1),(n2,seal(k1,n2)))"} {
		for i := range len(s) + 1 {
			reads(t, s[:i])
			reads(t, s[i:])
			for c := range 256 {
				if reads(t, s[:i]+string([]byte{byte(c)})+s[i:]) {
					taken++
				}
				if i < len(s) && reads(t, s[:i]+string([]byte{byte(c)})+s[i+1:]) {
					taken++
				}
			}
			if i < len(s) {
				reads(t, s[:i]+s[i+1:])
			}
		}
	}
	if taken < 100 {
		t.Errorf("only %d are terms' texts still", taken)
	}
}

func TestTextsOfOtherForms(t *testing.T) {
	for _, s := range []string{"", " ", "n", "k", "d", "seal", "()", "(", ")", ",", "(,)", "(n1)", "(n1,)", "(,n1)", "(n1,n2,n3)", "(n1 ,n2)", "(n1, n2)", "((n1,n2)", "(n1,n2))", "(n1,n2)(n1,n2)", "[n1,n2]", "(n1;n2)", "seal()", "seal(k1)", "seal(k1,)", "seal(,k1)", "seal(k1,n2,n3)", "seal (k1,n2)", "sealk1,n2", "seal1(k1,n2)", "SEAL(k1,n2)", "Seal(k1,n2)", "sea(k1,n2)", "seall(k1,n2)", "d(k1)", "d1", "d1()", "d1(k1,k2)", "d1 (k1)", "d1(k1", "d1k1", "d1((k1))", "D1(k1)", "N1", "K1", "m1", "p1", "1", "n1n1", "n1,n2", "n1(k1)", "n1\n", "\nn1", "n1\x00", "\x00", "\xff", "n\xff", "T", "(T,T)", "nT"} {
		if reads(t, s) {
			t.Errorf("P14.2: the model takes %q", s)
		}
	}
}

func TestTextsOfSixtyTermsAndOneMore(t *testing.T) {
	for n := 50; n < 70; n++ {
		for _, s := range []string{strings.Repeat("d99(", n-1) + "n99" + strings.Repeat(")", n-1), strings.Repeat("(n99,", n/2) + "k99" + strings.Repeat(")", n/2), strings.Repeat("seal(", n/2) + "k99" + strings.Repeat(",n99)", n/2), "d99(" + strings.Repeat("seal(k99,", n/2) + "k99" + strings.Repeat(")", n/2) + ")"} {
			_, terms := modelText(s)
			if reads(t, s) != (terms <= 60) || terms < n {
				t.Errorf("P14.1: %d terms", terms)
			}
		}
	}
}

func allocated(do func()) uint64 {
	var first, last runtime.MemStats
	runtime.ReadMemStats(&first)
	do()
	runtime.ReadMemStats(&last)
	return last.TotalAlloc - first.TotalAlloc
}

func TestLongTexts(t *testing.T) {
	const n = 1 << 22
	for _, s := range []string{strings.Repeat("(", n), strings.Repeat("d1(", n), strings.Repeat("seal(", n), strings.Repeat("n", n), "n" + strings.Repeat("1", n), "k" + strings.Repeat("0", n), strings.Repeat(")", n), strings.Repeat("(n1,", n), "n1" + strings.Repeat(" ", n), strings.Repeat("d1(", n) + "k1" + strings.Repeat(")", n), "(n1,n1" + strings.Repeat(",n1", n) + ")"} {
		var x api.Term
		var e api.Errno
		spent := allocated(func() { x, e = Parse(s) })
		if e != api.ErrForm || x.Kind != 0 || x.N != 0 || x.Kids != nil {
			t.Errorf("P14.2: %q..: %v, %v", s[:8], x, e)
		}
		if spent > n/4 {
			t.Errorf("rule 8: %q..: %d bytes of memory for what is no term", s[:8], spent)
		}
	}
}
