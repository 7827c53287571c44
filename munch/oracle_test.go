package munch_test

import (
	"fmt"
	"math/rand"
	"regexp"
	"sort"
	"strings"
)

// The tests hold the program against what stands here, which is written from the document's words in another way than the program: rule texts are recognised by rewriting them, and the ways go through a graph with steps that take no byte.

const specials = "\n\\|*+?.()[]"

// latin makes a rune of every byte, as package regexp reads no lone bytes.
func latin(s string) string {
	runes := []rune{}
	for i := 0; i < len(s); i++ {
		runes = append(runes, rune(s[i]))
	}
	return string(runes)
}

// A ^ directly behind the [ is no item, so the first item of brackets without it is another.
const (
	item      = `(?:\\[^\n]|[^\n\\\]-])`
	firstItem = `(?:\\[^\n]|[^\n\\\]^-])`
	member    = `(?:` + item + `(?:-` + item + `)?)`
	brackets  = `\[(?:\^` + member + `|` + firstItem + `(?:-` + item + `)?)` + member + `*\]`
	flat      = `(?:p[*+?]?)+(?:\|(?:p[*+?]?)+)*` // an expression without round brackets, its places written p
)

var (
	onePlace  = regexp.MustCompile(`(?s)\A(?:\\[^\n]|\.|` + brackets + `|[^\n\\|*+?.()\[\]])`)
	oneMember = regexp.MustCompile(`(?s)(` + item + `)(?:-(` + item + `))?`)
	group     = regexp.MustCompile(`\(` + flat + `\)`)
	whole     = regexp.MustCompile(`\A` + flat + `(?:\n` + flat + `)*\z`)
)

func isRuleText(s string) bool {
	rest, short := latin(s), ""
	for rest != "" {
		place := onePlace.FindString(rest)
		switch {
		case place != "" && rangesRise(place):
			short += "p"
			rest = rest[len(place):]
		case strings.ContainsAny(rest[:1], "\n|*+?()"):
			short += rest[:1]
			rest = rest[1:]
		default:
			return false
		}
	}
	for before := ""; before != short; {
		before = short
		short = group.ReplaceAllString(short, "p")
	}
	return whole.MatchString(short)
}

func rangesRise(place string) bool {
	if len(place) < 3 || place[0] != '[' {
		return true
	}
	members := strings.TrimPrefix(place[1:len(place)-1], "^")
	for _, m := range oneMember.FindAllStringSubmatch(members, -1) {
		if m[2] != "" && itemByte(m[2]) < itemByte(m[1]) {
			return false
		}
	}
	return true
}

func itemByte(item string) rune {
	runes := []rune(item)
	if item == "\\n" {
		return '\n'
	}
	return runes[len(runes)-1]
}

// beginsRuleText tries enough ends: one for every way in which a beginning can be open.
func beginsRuleText(s string) bool {
	for _, middle := range []string{"", "a", "]", "\xff]"} {
		for k := 0; k <= strings.Count(s, "("); k++ {
			if isRuleText(s + middle + strings.Repeat(")", k)) {
				return true
			}
		}
	}
	return false
}

// tree is an expression: kind 'p' a place, '.' its kids one behind the other, '|' one of its kids, and '*', '+', '?' on its only kid.
type tree struct {
	kind    byte
	kids    []*tree
	text    string
	allowed [256]bool
}

func (t *tree) String() string {
	switch t.kind {
	case 'p':
		return t.text
	case '.', '|':
		parts := []string{}
		for _, k := range t.kids {
			part := k.String()
			if k.kind == '|' || (k.kind == '.' && t.kind == '.') {
				part = "(" + part + ")"
			}
			parts = append(parts, part)
		}
		return strings.Join(parts, map[byte]string{'.': "", '|': "|"}[t.kind])
	}
	inner := t.kids[0].String()
	if t.kids[0].kind != 'p' {
		inner = "(" + inner + ")"
	}
	return inner + string(t.kind)
}

func joined(rules []*tree) string {
	texts := []string{}
	for _, r := range rules {
		texts = append(texts, r.String())
	}
	return strings.Join(texts, "\n")
}

func randomRules(r *rand.Rand) []*tree {
	for {
		rules := []*tree{}
		for n := 1 + r.Intn(3); n > 0; n-- {
			rules = append(rules, randomTree(r, 1+r.Intn(4)))
		}
		if len(joined(rules)) <= 120 {
			return rules
		}
	}
}

func randomTree(r *rand.Rand, depth int) *tree {
	kind := ".|*+?p"[r.Intn(6)]
	if depth == 0 || kind == 'p' {
		return randomPlace(r)
	}
	kids := 1
	if kind == '.' || kind == '|' {
		kids = 2 + r.Intn(2)
	}
	t := &tree{kind: kind}
	for ; kids > 0; kids-- {
		t.kids = append(t.kids, randomTree(r, depth-1))
	}
	return t
}

func randomPlace(r *rand.Rand) *tree {
	t := &tree{kind: 'p'}
	switch r.Intn(12) {
	case 0:
		t.text = "."
		t.allow(0, 255)
	case 1:
		t.text = "\\n"
		t.allow(10, 10)
	case 2:
		b := "\\|*+?.()[]^-ab\xff"[r.Intn(15)]
		t.text = "\\" + string([]byte{b})
		t.allow(int(b), int(b))
	case 3, 4, 5:
		t.randomBrackets(r)
	default:
		b := "aaabbc-^\x00\xff"[r.Intn(10)]
		t.text = string([]byte{b})
		t.allow(int(b), int(b))
	}
	return t
}

func (t *tree) allow(low, high int) {
	for b := low; b <= high; b++ {
		t.allowed[b] = true
	}
}

func (t *tree) randomBrackets(r *rand.Rand) {
	members := ""
	for n := 1 + r.Intn(2); n > 0; n-- {
		low, high := randomItem(r), randomItem(r)
		switch {
		case high < low || r.Intn(3) == 0:
			members += itemText(r, low)
			t.allow(low, low)
		default:
			members += itemText(r, low) + "-" + itemText(r, high)
			t.allow(low, high)
		}
	}
	switch {
	case r.Intn(3) == 0:
		t.text = "[^" + members + "]"
		for b := range t.allowed {
			t.allowed[b] = !t.allowed[b]
		}
	case members[0] == '^':
		t.text = "[\\" + members + "]"
	default:
		t.text = "[" + members + "]"
	}
}

func randomItem(r *rand.Rand) int {
	return int("aabbcdn\n\\]-[^*.\x00\xff"[r.Intn(17)])
}

func itemText(r *rand.Rand, b int) string {
	switch {
	case b == '\n':
		return "\\n"
	case b == '\\' || b == ']' || b == '-', b != 'n' && r.Intn(5) == 0:
		return "\\" + string([]byte{byte(b)})
	}
	return string([]byte{byte(b)})
}

// ends: behind which places of w a way through t can end that goes along w from the place at on.
func (t *tree) ends(w string, at int) map[int]bool {
	found := map[int]bool{}
	switch t.kind {
	case 'p':
		if at < len(w) && t.allowed[w[at]] {
			found[at+1] = true
		}
	case '|':
		for _, k := range t.kids {
			for e := range k.ends(w, at) {
				found[e] = true
			}
		}
	case '.':
		found[at] = true
		for _, k := range t.kids {
			found = k.endsOfAll(w, found)
		}
	default:
		once := t.kids[0].ends(w, at)
		for t.kind != '?' {
			before := len(once)
			for e := range t.kids[0].endsOfAll(w, once) {
				once[e] = true
			}
			if len(once) == before {
				break
			}
		}
		found = once
		if t.kind != '+' {
			found[at] = true
		}
	}
	return found
}

func (t *tree) endsOfAll(w string, from map[int]bool) map[int]bool {
	found := map[int]bool{}
	for at := range from {
		for e := range t.ends(w, at) {
			found[e] = true
		}
	}
	return found
}

// tokenRule: the rule of which w is a token, -1 if it is none.
func tokenRule(rules []*tree, w string) int {
	for i, r := range rules {
		if w != "" && r.ends(w, 0)[len(w)] {
			return i
		}
	}
	return -1
}

// web is a graph of the ways: free steps take no byte, a place's step takes one.
type web struct {
	free   [][]int
	places []webPlace
	final  []int // by rule
}

type webPlace struct {
	from, to int
	allowed  *[256]bool
}

func (g *web) node() int {
	g.free = append(g.free, nil)
	return len(g.free) - 1
}

func (g *web) step(from, to int) {
	g.free[from] = append(g.free[from], to)
}

func (g *web) lay(t *tree, from, to int) {
	switch t.kind {
	case 'p':
		g.places = append(g.places, webPlace{from, to, &t.allowed})
	case '|':
		for _, k := range t.kids {
			g.lay(k, from, to)
		}
	case '.':
		for _, k := range t.kids {
			next := g.node()
			g.lay(k, from, next)
			from = next
		}
		g.step(from, to)
	default:
		begin, end := g.node(), g.node()
		g.step(from, begin)
		g.lay(t.kids[0], begin, end)
		g.step(end, to)
		if t.kind != '+' {
			g.step(from, to)
		}
		if t.kind != '?' {
			g.step(end, begin)
		}
	}
}

func newWeb(rules []*tree) *web {
	g := &web{}
	g.node()
	for _, r := range rules {
		begin, end := g.node(), g.node()
		g.step(0, begin)
		g.lay(r, begin, end)
		g.final = append(g.final, end)
	}
	return g
}

func (g *web) spread(from []int) map[int]bool {
	seen := map[int]bool{}
	for len(from) > 0 {
		n := from[0]
		from = from[1:]
		if !seen[n] {
			seen[n] = true
			from = append(append([]int{}, from...), g.free[n]...)
		}
	}
	return seen
}

// model has node 0 for the empty text and one node for every set of places; -1 is where the empty set is.
type model struct {
	next  [][256]int
	rule  []int
	alive []bool
}

// sets makes the model; nil, if there are more sets than most.
func (g *web) sets(most int) *model {
	m := &model{}
	known := map[string]int{}
	spreads := []map[int]bool{g.spread([]int{0})}
	for at := 0; at < len(spreads); at++ {
		row := [256]int{}
		for b := range row {
			names, to := []string{}, []int{}
			for i, p := range g.places {
				if spreads[at][p.from] && p.allowed[b] {
					names = append(names, fmt.Sprint(i))
					to = append(to, p.to)
				}
			}
			row[b] = -1
			if len(names) == 0 {
				continue
			}
			sort.Strings(names)
			name := strings.Join(names, " ")
			if _, ok := known[name]; !ok {
				known[name] = len(spreads)
				spreads = append(spreads, g.spread(to))
			}
			row[b] = known[name]
			if len(known) > most {
				return nil
			}
		}
		m.next = append(m.next, row)
		m.rule = append(m.rule, g.ruleAt(spreads[at], at == 0))
	}
	m.findAlive()
	return m
}

func (g *web) ruleAt(spread map[int]bool, empty bool) int {
	for rule, end := range g.final {
		if spread[end] && !empty {
			return rule
		}
	}
	return -1
}

func (m *model) findAlive() {
	m.alive = make([]bool, len(m.rule))
	for again := true; again; {
		again = false
		for n, row := range m.next {
			alive := n == 0 || m.rule[n] >= 0
			for _, to := range row {
				// The empty text is alive by its own right, which what leads to its node does not inherit; nothing leads there.
				alive = alive || to >= 0 && m.alive[to]
			}
			if alive && !m.alive[n] {
				m.alive[n] = true
				again = true
			}
		}
	}
}
