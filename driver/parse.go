package driver

import (
	"strconv"
	"strings"

	"platformfw/api"
)

func isLetter(c byte) bool {
	return c >= 'a' && c <= 'z' || c >= 'A' && c <= 'Z' || c == '_'
}

func isDigit(c byte) bool { return c >= '0' && c <= '9' }

func isName(s string) bool {
	if s == "" || len(s) > api.MaxNameBytes || !isLetter(s[0]) {
		return false
	}
	return wordLength(s) == len(s)
}

// wordLength returns how many letters, digits and underscores a text starts with.
func wordLength(s string) int {
	n := 0
	for n < len(s) && (isLetter(s[n]) || isDigit(s[n])) {
		n++
	}
	return n
}

// number returns the value of a decimal number without leading zeros.
func number(s string) (uint64, bool) {
	if s == "" || !isDigit(s[0]) || s[0] == '0' && len(s) > 1 {
		return 0, false
	}
	v, err := strconv.ParseUint(s, 10, 64)
	return v, err == nil
}

// split returns the tokens of a line, or false if it contains something else.
func split(line string) ([]string, bool) {
	if at := strings.IndexByte(line, '#'); at >= 0 {
		line = line[:at]
	}
	var tokens []string
	for line != "" {
		n := 1
		switch c := line[0]; {
		case c == ' ' || c == '\t':
			line = line[1:]
			continue
		case isLetter(c) || isDigit(c):
			n = wordLength(line)
			if _, ok := number(line[:n]); !ok && !isName(line[:n]) {
				return nil, false
			}
		case strings.HasPrefix(line, "->"):
			n = 2
		case c != ':' && c != ';' && c != '&' && c != '=':
			return nil, false
		}
		tokens = append(tokens, line[:n])
		line = line[n:]
	}
	return tokens, true
}

// parser collects a driver; targets holds the names of the states to which the transitions lead.
type parser struct {
	driver  api.Driver
	targets []string
	tokens  []string
}

// next removes the first token of the line.
func (p *parser) next() string {
	if len(p.tokens) == 0 {
		return ""
	}
	t := p.tokens[0]
	p.tokens = p.tokens[1:]
	return t
}

// word removes the first token if it is a given one.
func (p *parser) word(want string) bool {
	if len(p.tokens) == 0 || p.tokens[0] != want {
		return false
	}
	p.tokens = p.tokens[1:]
	return true
}

func (p *parser) name() (string, bool) {
	s := p.next()
	return s, isName(s)
}

func (p *parser) number() (uint64, bool) { return number(p.next()) }

// line parses the tokens of a line after the first one.
func (p *parser) line() bool {
	switch p.next() {
	case "state":
		s, ok := p.name()
		p.driver.States = append(p.driver.States, s)
		return ok && len(p.tokens) == 0
	case "on":
		return len(p.driver.States) > 0 && p.transition() && len(p.tokens) == 0
	}
	return false
}

func (p *parser) transition() bool {
	t := api.Transition{From: len(p.driver.States) - 1}
	var ok bool
	if t.Event, ok = p.name(); !ok {
		return false
	}
	if p.word("if") && !p.guard(&t.Guard) {
		return false
	}
	if !p.word("->") {
		return false
	}
	target, ok := p.name()
	if !ok {
		return false
	}
	if p.word(":") {
		for more := true; more; more = p.word(";") {
			if !p.operation(&t) {
				return false
			}
		}
	}
	p.driver.Transitions = append(p.driver.Transitions, t)
	p.targets = append(p.targets, target)
	return true
}

func (p *parser) guard(g *api.Guard) bool {
	var ok [3]bool
	g.Used = true
	g.Reg, ok[0] = p.number()
	and := p.word("&")
	g.Mask, ok[1] = p.number()
	is := p.word("=")
	g.Value, ok[2] = p.number()
	return ok[0] && ok[1] && ok[2] && and && is
}

func (p *parser) operation(t *api.Transition) bool {
	var op api.RegOp
	first, second := false, true
	switch p.next() {
	case "write":
		op.Write = true
		op.Reg, first = p.number()
		op.Value, second = p.number()
	case "read":
		op.Reg, first = p.number()
	}
	t.Ops = append(t.Ops, op)
	return first && second
}

// Parse returns the driver that a text describes.
func Parse(text string) (api.Driver, api.Errno) {
	var p parser
	named := false
	for _, line := range strings.Split(text, "\n") {
		var ok bool
		if p.tokens, ok = split(line); !ok {
			return api.Driver{}, api.ErrSyntax
		}
		switch {
		case len(p.tokens) == 0:
		case named:
			if !p.line() {
				return api.Driver{}, api.ErrSyntax
			}
		default:
			named = p.word("driver")
			if p.driver.Name, ok = p.name(); !named || !ok || len(p.tokens) > 0 {
				return api.Driver{}, api.ErrSyntax
			}
		}
	}
	if !named {
		return api.Driver{}, api.ErrSyntax
	}
	if e := p.resolve(); e != api.OK {
		return api.Driver{}, e
	}
	return p.driver, api.OK
}

// resolve replaces the names of states by their indices.
func (p *parser) resolve() api.Errno {
	index := map[string]int{}
	for i, s := range p.driver.States {
		if _, ok := index[s]; ok {
			return api.ErrDuplicate
		}
		index[s] = i
	}
	for i, target := range p.targets {
		to, ok := index[target]
		if !ok {
			return api.ErrNotFound
		}
		p.driver.Transitions[i].To = to
	}
	return Check(p.driver)
}
