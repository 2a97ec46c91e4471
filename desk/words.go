package desk

import (
	"strconv"
	"strings"

	"meetwater/api"
)

const blank = " "

// names is words, each at the place of the number that it means; none means 0.
type names [5]string

// meanings is the numbers that words mean.
func (n names) meanings() map[string]int {
	table := make(map[string]int)
	for means, word := range n {
		if word != "" {
			table[word] = means
		}
	}
	return table
}

// words is a text that is read word by word, with one blank between each two.
// What is not as it must be is remembered, so it need only be asked at the end.
type words struct {
	rest  string
	ended bool // behind the last word; a blank at the end has a word behind it
	wrong bool
}

// right tells whether all words were as they must be, to the last one.
func (w *words) right() bool { return w.ended && !w.wrong }

// next is the word that is read next; without bytes, if there is none.
func (w *words) next() string {
	word, _, _ := strings.Cut(w.rest, blank)
	return word
}

func (w *words) goOn() {
	_, rest, more := strings.Cut(w.rest, blank)
	w.rest, w.ended = rest, !more
}

// has reads the next word, if it is this one, and tells whether it was.
func (w *words) has(word string) bool {
	if w.next() != word {
		return false
	}
	w.goOn()
	return true
}

func (w *words) must(word string) {
	if !w.has(word) {
		w.wrong = true
	}
}

// one reads a word that must mean a number.
func (w *words) one(means func(string) (int, bool)) int {
	n, ok := means(w.next())
	if !ok {
		w.wrong = true
		return 0
	}
	w.goOn()
	return n
}

// some reads words as long as they mean numbers, but not more than any list of
// a plan may have: whoever comes behind them finds the others.
func (w *words) some(means func(string) (int, bool)) []int {
	var l []int
	for len(l) < api.MaxCells {
		n, ok := means(w.next())
		if !ok {
			break
		}
		w.goOn()
		l = append(l, n)
	}
	return l
}

// oneOf tells what words mean that stand for a number each.
func oneOf(n names) func(string) (int, bool) {
	table := n.meanings()
	return func(word string) (int, bool) {
		means, ok := table[word]
		return means, ok
	}
}

// number is the number of which these are the digits, as they are shown: none
// is shown with a sign or a 0 that it could do without.
func number(word string) (int, bool) {
	n, err := strconv.Atoi(word)
	return n, err == nil && strconv.Itoa(n) == word
}
