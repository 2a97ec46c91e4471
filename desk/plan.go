package desk

import (
	"strconv"

	"meetwater/api"
)

// The words ahead of a plan's parts.
const (
	limitWord = "limit"
	leftWord  = "from"
	rightWord = "and"
	lKeysWord = "on"
	rKeysWord = "is"
	groupWord = "by"
	aggsWord  = "tell"
)

// The words that parts of a plan are.
var (
	kindWords   = names{api.Interval: "interval", api.Window: "window", api.Temporal: "temporal"}
	modeWords   = names{api.Inner: "inner", api.LeftOuter: "left", api.RightOuter: "right", api.FullOuter: "full"}
	typeWords   = names{api.Bool: "bool", api.Int: "int", api.Text: "text"}
	figureWords = names{api.CountOf: "count", api.SumOf: "sum", api.MinOf: "min", api.MaxOf: "max"}
)

// wordsOfPlan relies on the plan's having been found right.
func wordsOfPlan(p api.Plan) []string {
	l := append([]string{kindWords[p.Kind]}, wordsOfSpan(p)...)
	l = append(l, modeWords[p.Mode], limitWord, strconv.Itoa(p.Limit))
	l = append(append(l, leftWord), wordsOfTypes(p.Left)...)
	l = append(append(l, rightWord), wordsOfTypes(p.Right)...)
	l = append(append(l, lKeysWord), wordsOfNumbers(p.LKeys...)...)
	l = append(append(l, rKeysWord), wordsOfNumbers(p.RKeys...)...)
	if p.Grouped {
		l = append(append(l, groupWord), wordsOfNumbers(p.Group...)...)
		l = append(append(l, aggsWord), wordsOfFigures(p.Aggs)...)
	}
	return l
}

// wordsOfSpan is what a kind alone has.
func wordsOfSpan(p api.Plan) []string {
	switch p.Kind {
	case api.Interval:
		return wordsOfNumbers(p.Low, p.High)
	case api.Window:
		return wordsOfNumbers(p.Size)
	}
	return nil
}

func wordsOfNumbers(numbers ...int) []string {
	var l []string
	for _, n := range numbers {
		l = append(l, strconv.Itoa(n))
	}
	return l
}

func wordsOfTypes(columns []int) []string {
	var l []string
	for _, column := range columns {
		l = append(l, typeWords[column])
	}
	return l
}

func wordsOfFigures(aggs []api.Agg) []string {
	var l []string
	for _, a := range aggs {
		l = append(l, figureWords[a.Fn])
		if a.Fn != api.CountOf {
			l = append(l, strconv.Itoa(a.Col))
		}
	}
	return l
}

// readPlan leaves it to others to ask whether the plan is right.
func readPlan(w *words) api.Plan {
	var p api.Plan
	p.Kind = w.one(oneOf(kindWords))
	switch p.Kind {
	case api.Interval:
		p.Low = w.one(number)
		p.High = w.one(number)
	case api.Window:
		p.Size = w.one(number)
	}
	p.Mode = w.one(oneOf(modeWords))
	w.must(limitWord)
	p.Limit = w.one(number)
	w.must(leftWord)
	p.Left = w.some(oneOf(typeWords))
	w.must(rightWord)
	p.Right = w.some(oneOf(typeWords))
	w.must(lKeysWord)
	p.LKeys = w.some(number)
	w.must(rKeysWord)
	p.RKeys = w.some(number)
	p.Grouped = w.has(groupWord)
	if p.Grouped {
		p.Group = w.some(number)
		w.must(aggsWord)
		p.Aggs = readFigures(w)
	}
	return p
}

func readFigures(w *words) []api.Agg {
	var l []api.Agg
	for len(l) < api.MaxAggs && !w.ended && !w.wrong {
		a := api.Agg{Fn: w.one(oneOf(figureWords))}
		if a.Fn != api.CountOf {
			a.Col = w.one(number)
		}
		l = append(l, a)
	}
	return l
}
