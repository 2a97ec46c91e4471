package tape

import (
	"math"
	"slices"
	"strings"
	"testing"
)

func TestWriter(t *testing.T) { // the highest byte first; below 0 that and 2^64
	for n, want := range map[int]string{
		0: "\x00\x00\x00\x00\x00\x00\x00\x00", 1: "\x00\x00\x00\x00\x00\x00\x00\x01",
		-1: "\xff\xff\xff\xff\xff\xff\xff\xff", -2: "\xff\xff\xff\xff\xff\xff\xff\xfe",
		0x0102030405060708: "\x01\x02\x03\x04\x05\x06\x07\x08",
		math.MaxInt:        "\x7f\xff\xff\xff\xff\xff\xff\xff", math.MinInt: "\x80\x00\x00\x00\x00\x00\x00\x00",
	} {
		var w Writer
		w.Number(n)
		if w.Bytes() != want {
			t.Errorf("%d is %x", n, w.Bytes())
		}
	}
	var w Writer
	w.Text("ab")
	w.Raw("c")
	w.Text("")
	WriteList(&w, []string{"x", "yz"}, func(s string) { w.Raw(s) })
	want := "\x00\x00\x00\x00\x00\x00\x00\x02abc" + strings.Repeat("\x00", 8) + "\x00\x00\x00\x00\x00\x00\x00\x02xyz"
	if w.Bytes() != want {
		t.Errorf("%x and must be %x", w.Bytes(), want)
	}
}

func TestRead(t *testing.T) { // what was written is read
	var w Writer
	numbers := []int{0, 1, -1, 255, 256, math.MaxInt, math.MinInt}
	WriteList(&w, numbers, w.Number)
	w.Text("a\x00b")
	w.Raw("rest")
	right := Read(w.Bytes(), func(r *Reader) {
		if l := ReadList(r, r.Number); !slices.Equal(l, numbers) {
			t.Errorf("numbers are %v", l)
		}
		if s := r.Text(); s != "a\x00b" {
			t.Errorf("the text is %q", s)
		}
		if s := r.Rest(); s != "rest" {
			t.Errorf("the rest is %q", s)
		}
		if s := r.Rest(); s != "" {
			t.Errorf("behind it there is %q", s)
		}
	})
	if !right {
		t.Error("it was not read")
	}
}

func TestWrongBytes(t *testing.T) { // whatever is wrong, Read tells it, and nobody panics
	number := func(n int) string {
		var w Writer
		w.Number(n)
		return w.Bytes()
	}
	for name, c := range map[string]struct {
		bytes string
		read  func(r *Reader)
		want  bool
	}{
		"nothing":                  {"", func(r *Reader) {}, true},
		"something is left":        {"x", func(r *Reader) {}, false},
		"a number":                 {number(7), func(r *Reader) { r.Number() }, true},
		"a byte less":              {number(7)[1:], func(r *Reader) { r.Number() }, false},
		"no number":                {"", func(r *Reader) { r.Number() }, false},
		"a text":                   {number(1) + "a", func(r *Reader) { r.Text() }, true},
		"a text that ends":         {number(2) + "a", func(r *Reader) { r.Text() }, false},
		"a text below 0":           {number(-1) + "a", func(r *Reader) { r.Text() }, false},
		"a text of the least":      {number(math.MinInt) + "a", func(r *Reader) { r.Text() }, false},
		"a text of the most":       {number(math.MaxInt) + "a", func(r *Reader) { r.Text() }, false},
		"a list":                   {number(1) + number(5), func(r *Reader) { ReadList(r, r.Number) }, true},
		"a list without elements":  {number(0), func(r *Reader) { ReadList(r, r.Number) }, true},
		"a list that ends":         {number(2) + number(5), func(r *Reader) { ReadList(r, r.Number) }, false},
		"a list below 0":           {number(-1), func(r *Reader) { ReadList(r, r.Number) }, false},
		"a list of the most":       {number(math.MaxInt) + number(5), func(r *Reader) { ReadList(r, r.Number) }, false},
		"what must be so":          {"", func(r *Reader) { r.Must(true) }, true},
		"what must be so, and not": {"", func(r *Reader) { r.Must(false) }, false},
	} {
		if right := Read(c.bytes, c.read); right != c.want {
			t.Errorf("%s: %v", name, right)
		}
	}
}
