package desk

import (
	"strconv"
	"strings"

	"meetwater/api"
	"meetwater/engine"
)

const (
	lineFeed  = "\n"
	viewWord  = "view"
	errorWord = "error"
)

var changeWords = names{api.Insert: "+", api.Delete: "-", api.Before: "<", api.After: ">"}

// game is an engine on its way through a script, and what was told so far.
type game struct {
	plan   api.Plan
	engine api.Engine
	told   strings.Builder
}

// gameOf relies on the plan's having been found right.
func gameOf(p api.Plan) *game {
	start, _ := engine.Start(p)
	return &game{plan: p, engine: start}
}

// do tells what a line behind the plan answers.
func (g *game) do(line string) {
	if line == viewWord {
		g.tellView()
		return
	}
	v, e := ReadEvent(line)
	if e != api.OK {
		g.tellError(e)
		return
	}
	next, out, e := engine.Step(g.plan, g.engine, v)
	if e != api.OK {
		g.tellError(e)
		return
	}
	g.engine = next
	for _, c := range out {
		g.tell(changeWords[c.Kind], showCells(c.Row))
	}
}

func (g *game) tellView() {
	for _, c := range g.engine.View {
		g.tell(strconv.Itoa(c.N), showCells(c.Row))
	}
}

func (g *game) tellError(e api.Errno) { g.tell(errorWord, strconv.Itoa(int(e))) }

// tell tells a line of two words.
func (g *game) tell(first, second string) { g.told.WriteString(first + blank + second + lineFeed) }
