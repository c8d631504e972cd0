package describe

import (
	"sluice/api"
	"sluice/row"
)

// parser reads a description. A wrong form ends the reading where the parser
// stands; wrong names and depths count only if the form is right to the end,
// so the first of each is kept for then.
type parser struct {
	row.Reader
	lines   []Part
	badName *Refusal
	tooDeep *Refusal
}

// Parse tells the type of a description's messages. An error is a *Refusal.
func Parse(text string) (*Type, error) {
	if len(text) > api.MaxText {
		return nil, &Refusal{Errno: api.ErrLong}
	}
	p := parser{Reader: row.NewReader(text)}
	if !p.description() {
		return nil, &Refusal{Errno: api.ErrForm, At: p.At()}
	}
	if p.badName != nil {
		return nil, p.badName
	}
	if p.tooDeep != nil {
		return nil, p.tooDeep
	}
	return p.lines[len(p.lines)-1].Type, nil
}

func (p *parser) refuseName(at int) {
	if p.badName == nil {
		p.badName = &Refusal{Errno: api.ErrName, At: at}
	}
}

func (p *parser) refuseDepth(at int) {
	if p.tooDeep == nil {
		p.tooDeep = &Refusal{Errno: api.ErrDeep, At: at}
	}
}

func (p *parser) description() bool {
	for p.line() {
		if p.Ended() {
			return true
		}
		if len(p.lines) == api.MaxLines || !p.Accept('\n') {
			return false
		}
	}
	return false
}

func (p *parser) line() bool {
	at := p.At()
	line, ok := p.part(p.lines, '=')
	if !ok {
		return false
	}
	if line.Type.Depth > api.MaxDeep {
		p.refuseDepth(at)
	}
	p.lines = append(p.lines, line)
	return true
}

// part reads a new name and its type: a line is built like a field but for the
// sign between the two.
func (p *parser) part(others []Part, sign byte) (Part, bool) {
	name, ok := p.newName(others)
	if !ok || !p.Accept(sign) {
		return Part{}, false
	}
	of, ok := p.anyType()
	return Part{Name: name, Type: of}, ok
}

func (p *parser) newName(others []Part) (string, bool) {
	at := p.At()
	name := p.letters()
	if _, isWord := wordType(name); isWord || name == "" {
		return "", false
	}
	if _, taken := find(others, name); taken {
		p.refuseName(at)
	}
	return name, true
}

// letters stops ahead of a letter too many: no caller accepts one there.
func (p *parser) letters() string {
	from := p.At()
	for range api.MaxName {
		if _, ok := p.AcceptIn('a', 'z'); !ok {
			break
		}
	}
	return p.Since(from)
}

func (p *parser) anyType() (*Type, bool) {
	switch {
	case p.Accept('['):
		of, ok := p.around(List)
		return of, ok && p.Accept(']')
	case p.Accept('?'):
		return p.around(Option)
	case p.Accept('{'):
		return p.parts(Record, ',', '}')
	case p.Accept('<'):
		return p.parts(Choice, '|', '>')
	}
	return p.namedType()
}

func (p *parser) around(kind Kind) (*Type, bool) {
	inner, ok := p.anyType()
	if !ok {
		return nil, false
	}
	return compound(kind, Part{Type: inner}), true
}

func (p *parser) parts(kind Kind, between, end byte) (*Type, bool) {
	var parts []Part
	for {
		part, ok := p.part(parts, ':')
		if !ok {
			return nil, false
		}
		parts = append(parts, part)
		if p.Accept(end) {
			return compound(kind, parts...), true
		}
		if len(parts) == api.MaxFields || !p.Accept(between) {
			return nil, false
		}
	}
}

func (p *parser) namedType() (*Type, bool) {
	at := p.At()
	name := p.letters()
	if name == "" {
		return nil, false
	}
	if of, ok := wordType(name); ok {
		return of, true
	}
	if of, ok := find(p.lines, name); ok {
		return of, true
	}
	p.refuseName(at)
	return &Type{}, true // stands in until the form is read to its end
}
