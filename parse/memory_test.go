package parse_test

import (
	"reflect"
	"strings"
	"sync"
	"testing"
	"unsafe"

	"gantline/api"
	"gantline/parse"
	"gantline/tree"
)

// texts are of all sorts, such as are refused too.
func texts() []string {
	list := []string{
		"", "x", "func", "#", "func f() { a < b < c; }", exprAhead + strings.Repeat("(", most) + "a", strings.Repeat(" ", api.MaxSource+1),
		"var g int; struct S { a int; b []chan S; } struct E { }", "func f(a int, b func(int, bool) S) []int { }",
		"func f() { a.b[c](d, e, h).g = - - !x + y * z; (func(x int) int { return x; })(1, 2, 3); }",
		"func f() { var x int = 1; { } if a { } if a { } else { b; c; d; } while a { return; } close c; go f(1); send c, d; select { case recv v = c { } case send c, d { } default { } } }",
		"func f() { new S.a; make([]int, 3)[0] = len(a) + recv(b); nil(chan S); true; false; }",
		exprAhead + "a" + strings.Repeat(" + f(a, b, c)", 50) + exprBehind,
	}
	for seed := range 60 {
		a := newAuthor(seed, 60+seed%3*15, 200)
		a.program()
		text, _ := a.text(a.words)
		list = append(list, text)
	}
	return list
}

// answer is all that a call answers.
type answer struct {
	tree tree.Node
	at   int
	e    api.Errno
}

func parsed(text string) answer {
	x, at, e := parse.Parse(text)
	return answer{x, at, e}
}

// own is a text in memory of its own, which can be written into.
func own(text string) (string, []byte) {
	b := []byte(text)
	return unsafe.String(unsafe.SliceData(b), len(b)), b
}

// R4: no call writes into what is handed in; what is answered shares no memory with it.
func TestTextNotKept(t *testing.T) {
	for _, text := range texts() {
		want := parsed(text)
		mine, bytes := own(text)
		got := parsed(mine)
		if string(bytes) != text {
			t.Errorf("Parse(%s) wrote into its text", short(text))
		}
		for i := range bytes {
			bytes[i] = '?'
		}
		if !reflect.DeepEqual(got, want) {
			t.Errorf("Parse(%s): %s, want %s", short(text), short(told(got.tree)), short(told(want.tree)))
		}
	}
}

// spoil writes into all of a tree's lists, spare room too.
func spoil(x tree.Node) {
	for _, kid := range x.Kids {
		spoil(kid)
	}
	kids := x.Kids[:cap(x.Kids)]
	for i := range kids {
		kids[i] = tree.Node{Kind: "spoilt", Text: "spoilt", At: -1}
	}
}

// R4: what is answered is new memory: what becomes of one answer is not seen in another.
func TestNewMemory(t *testing.T) {
	for _, text := range texts() {
		want := parsed(text)
		first, second := parsed(text), parsed(text)
		spoil(first.tree)
		if third := parsed(text); !reflect.DeepEqual(second, want) || !reflect.DeepEqual(third, want) {
			t.Errorf("Parse(%s): %s, %s, want %s", short(text), short(told(second.tree)), short(told(third.tree)), short(told(want.tree)))
		}
	}
}

// R4: no two lists of one answer share memory, spare room too.
func TestNoListsShared(t *testing.T) {
	lists := 0
	for _, text := range texts() {
		want, got := parsed(text), parsed(text)
		each(got.tree, func(x tree.Node) {
			spare := x.Kids[len(x.Kids):cap(x.Kids)]
			for i := range spare {
				spare[i] = tree.Node{Kind: "spoilt", Text: "spoilt", At: -1}
			}
			for _, s := range spare {
				if s.Kind != "spoilt" {
					t.Errorf("Parse(%s): spare room is shared", short(text))
				}
			}
		})
		if !reflect.DeepEqual(got, want) {
			t.Errorf("Parse(%s): a list's spare room is another's: %s, want %s", short(text), short(told(got.tree)), short(told(want.tree)))
		}
		seen := map[*tree.Node]bool{}
		each(got.tree, func(x tree.Node) {
			for i := range x.Kids[:cap(x.Kids)] {
				at := &x.Kids[:cap(x.Kids)][i]
				if seen[at] {
					t.Errorf("Parse(%s): two lists share memory", short(text))
				}
				seen[at] = true
			}
			lists++
		})
	}
	if lists < 3000 {
		t.Errorf("%d lists", lists)
	}
}

// R5: what a call answers hangs on its text alone, not on those that were read ahead of it.
func TestAskedAgain(t *testing.T) {
	list := texts()
	var first []answer
	for _, text := range list {
		first = append(first, parsed(text))
	}
	for i, before := range list {
		for j, text := range list {
			if (i+j)%7 > 0 {
				continue
			}
			parse.Parse(before)
			if got := parsed(text); !reflect.DeepEqual(got, first[j]) {
				t.Fatalf("Parse(%s) behind %s: %s, want %s", short(text), short(before), short(told(got.tree)), short(told(first[j].tree)))
			}
		}
	}
}

// R5: calls that go on beside each other do not tell of one another.
func TestBesideEachOther(t *testing.T) {
	list := texts()
	var want []answer
	for _, text := range list {
		want = append(want, parsed(text))
	}
	var all sync.WaitGroup
	for range 8 {
		all.Go(func() {
			for i, text := range list {
				if !reflect.DeepEqual(parsed(text), want[i]) {
					t.Errorf("Parse(%s) beside others: not the same", short(text))
				}
			}
		})
	}
	all.Wait()
}

// R1: any bytes end, and are refused or a tree, whose places are the text's.
func TestAnyBytes(t *testing.T) {
	d := dice(21)
	for range 3000 {
		bytes := make([]byte, d.below(60))
		for i := range bytes {
			bytes[i] = byte(d.below(256))
			if d.below(3) > 0 {
				bytes[i] = "(){}[];,.=<>+-!&| xfunc7"[d.below(24)]
			}
		}
		text := string(bytes)
		if got := parsed(text); got.e == api.OK && got.at != 0 || got.at < 0 || got.at > len(text) || got.e != api.OK && got.e != api.ESYNTAX {
			t.Errorf("Parse(%q): error %d at %d", text, got.e, got.at)
		}
	}
}
