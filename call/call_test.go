package call_test

import (
	"math/rand"
	"slices"
	"strconv"
	"strings"
	"testing"

	"linchpin/api"
	"linchpin/call"
)

const maxNumber = 1<<31 - 1

// names tells all commands, each with how many numbers it has.
var names = map[string]int{
	"tick": 1, "release": 2, "wake": 2, "raise": 1, "mask": 1, "unmask": 1, "get": 1, "share": 1, "drop": 1,
	"submit": 7, "start": 0, "take": 0, "finish": 3, "reap": 0, "cancel": 1, "free": 0, "now": 0,
}

func TestWords(t *testing.T) {
	for _, c := range []struct {
		s     string
		words []string
	}{
		{"", nil},
		{" \t\r\n ", nil},
		{"tick", []string{"tick"}},
		{"tick  5", []string{"tick", "5"}},
		{"\ta\nb\r\nc d ", []string{"a", "b", "c", "d"}},
		{"a\vb\fc", []string{"a\vb\fc"}},
		{"a\u00a0b \u2003", []string{"a\u00a0b", "\u2003"}},
		{"ä ö\tü", []string{"ä", "ö", "ü"}},
		{"\xff\xfe \x80", []string{"\xff\xfe", "\x80"}},
		{"\xff", []string{"\xff"}},
		{"a\x00b", []string{"a\x00b"}},
		{"\xe2\x82 \xac", []string{"\xe2\x82", "\xac"}},
	} {
		if words := call.Words(c.s); !slices.Equal(words, c.words) {
			t.Errorf("P21.1: Words(%q): %q", c.s, words)
		}
	}
}

func TestNumber(t *testing.T) {
	for _, c := range []struct {
		s  string
		n  int
		ok bool
	}{
		{"0", 0, true}, {"7", 7, true}, {"10", 10, true}, {"2147483647", maxNumber, true}, {"1000000000", 1000000000, true},
		{"", 0, false}, {"00", 0, false}, {"07", 0, false}, {"2147483648", 0, false}, {"9999999999", 0, false}, {"10000000000", 0, false},
		{"-1", 0, false}, {"+1", 0, false}, {"1.5", 0, false}, {" 1", 0, false}, {"1 ", 0, false}, {"a", 0, false}, {"1a", 0, false}, {"0x1", 0, false}, {"1_0", 0, false},
		{"٣", 0, false}, {"\xff", 0, false}, {"1\xff", 0, false}, {strings.Repeat("9", 100), 0, false}, {"18446744073709551617", 0, false},
	} {
		if n, ok := call.Number(c.s); n != c.n || ok != c.ok {
			t.Errorf("P21.1: Number(%q): %v, %v", c.s, n, ok)
		}
	}
}

func TestNums(t *testing.T) {
	for name, want := range names {
		if n, ok := call.Nums(name); n != want || !ok {
			t.Errorf("P21.1: Nums(%q): %v, %v", name, n, ok)
		}
	}
	for _, name := range []string{"", "Tick", "tick ", "ticks", "5", "\xff"} {
		if n, ok := call.Nums(name); n != 0 || ok {
			t.Errorf("P21.1: Nums(%q): %v, %v", name, n, ok)
		}
	}
}

func TestMayAndText(t *testing.T) {
	for _, c := range []struct {
		c    api.Call
		text string
	}{
		{api.Call{Name: "tick", Nums: []int{5}}, "tick 5"},
		{api.Call{Name: "now"}, "now"},
		{api.Call{Name: "now", Nums: []int{}}, "now"},
		{api.Call{Name: "submit", Nums: []int{0, 1, 2, 3, 4, 5, maxNumber}}, "submit 0 1 2 3 4 5 2147483647"},
		{api.Call{}, ""},
		{api.Call{Name: "stop"}, ""},
		{api.Call{Name: "tick"}, ""},
		{api.Call{Name: "tick", Nums: []int{1, 2}}, ""},
		{api.Call{Name: "now", Nums: []int{1}}, ""},
		{api.Call{Name: "tick", Nums: []int{-1}}, ""},
		{api.Call{Name: "tick", Nums: []int{maxNumber + 1}}, ""},
		{api.Call{Name: "wake", Nums: []int{1, -1 << 63}}, ""},
		{api.Call{Name: "tick 5", Nums: []int{5}}, ""},
		{api.Call{Name: "\xff", Nums: []int{5}}, ""},
	} {
		if ok := call.May(c.c); ok != (c.text != "") {
			t.Errorf("P21.1: May(%v): %v", c.c, ok)
		}
		if text := call.Text(c.c); text != c.text {
			t.Errorf("P21.1: Text(%v): %q", c.c, text)
		}
	}
}

func TestParse(t *testing.T) {
	for _, c := range []struct {
		s    string
		want api.Call
		code api.Code
	}{
		{"tick  5", api.Call{Name: "tick", Nums: []int{5}}, api.OK},
		{"\t\r\nnow ", api.Call{Name: "now"}, api.OK},
		{"finish 0\n7\r1", api.Call{Name: "finish", Nums: []int{0, 7, 1}}, api.OK},
		{"wake 0 2147483647", api.Call{Name: "wake", Nums: []int{0, maxNumber}}, api.OK},
		{"", api.Call{}, api.Malformed},
		{" ", api.Call{}, api.Malformed},
		{"tick", api.Call{}, api.Malformed},
		{"tick 5 5", api.Call{}, api.Malformed},
		{"tick five", api.Call{}, api.Malformed},
		{"tick tick", api.Call{}, api.Malformed},
		{"tick -5", api.Call{}, api.Malformed},
		{"tick 05", api.Call{}, api.Malformed},
		{"tick 2147483648", api.Call{}, api.Malformed},
		{"Tick 5", api.Call{}, api.Malformed},
		{"5 tick", api.Call{}, api.Malformed},
		{"5", api.Call{}, api.Malformed},
		{"now 1", api.Call{}, api.Malformed},
		{"tick\v5", api.Call{}, api.Malformed},
		{"tick 5\x00", api.Call{}, api.Malformed},
		{"\xff 5", api.Call{}, api.Malformed},
	} {
		got, code := call.Parse(c.s)
		if got.Name != c.want.Name || !slices.Equal(got.Nums, c.want.Nums) || code != c.code {
			t.Errorf("P21.1: Parse(%q): %v, %v", c.s, got, code)
		}
	}
}

func TestToldAndReadAgain(t *testing.T) {
	r := rand.New(rand.NewSource(29))
	blanks := []string{" ", "\t", "\n", "\r", "  ", "\r\n"}
	for range 50 {
		for name, n := range names {
			c := api.Call{Name: name}
			line := blanks[r.Intn(6)] + name
			for range n {
				num := r.Intn(1 << r.Intn(32))
				c.Nums = append(c.Nums, num)
				line += blanks[r.Intn(6)] + strconv.Itoa(num)
			}
			for _, s := range []string{call.Text(c), line, line + "\n"} {
				got, code := call.Parse(s)
				if got.Name != name || !slices.Equal(got.Nums, c.Nums) || code != api.OK {
					t.Fatalf("P21.2: %q is read again: %v, %v", s, got, code)
				}
			}
			if _, code := call.Parse(line + " 1"); code != api.Malformed {
				t.Fatalf("P21.1: %q, with one more number: %v", line, code)
			}
		}
	}
}
