package http

import "hearth/api"

const (
	longestLine = 256  // bytes of a piece's number, of a response's first line
	longestTail = 1024 // bytes of the lines behind the number 0
)

// take takes the stream's next byte. What is waited for is done when a request is read (with the status 0), or can't be.
func (p *Parser) take(c byte) (status int, done bool) {
	switch p.waits {
	case forHead:
		return p.takeHead(c)
	case forBytes:
		return 0, p.takeByte(c)
	case forNumber:
		return p.takeNumber(c)
	case forPiece:
		if p.takeByte(c) {
			p.waits = forReturn
		}
		return 0, false
	case forReturn:
		return p.takeJust(c, '\r', forFeed)
	case forFeed:
		return p.takeJust(c, '\n', forNumber)
	}
	return p.takeTail(c)
}

// add lays a byte behind the lines, and tells whether it ends one whose text is empty.
func (p *Parser) add(c byte) bool {
	p.text = append(p.text, c)
	if c != '\n' {
		return false
	}
	line := p.text[p.line:]
	p.line = len(p.text)
	return len(line) == 1 || len(line) == 2 && line[0] == '\r'
}

// clear gives the lines, and waits for others.
func (p *Parser) clear() string {
	s := string(p.text)
	p.text, p.line = nil, 0
	return s
}

func (p *Parser) takeHead(c byte) (status int, done bool) {
	first := p.line == 0
	empty := p.add(c)
	switch {
	case empty && !first:
		return p.takeRequest(p.clear())
	case empty && !p.passed && len(p.text) == len(lineEnd):
		p.clear()
		p.passed = true
	case len(p.text) >= api.MaxHead:
		return 431, true
	}
	return 0, false
}

// takeRequest takes a whole head, and waits for the body that it tells of.
func (p *Parser) takeRequest(lines string) (status int, done bool) {
	r, status := readHead(lines)
	if status != 0 {
		return status, true
	}
	pieces, size, status := frame(r)
	p.now = r
	switch {
	case status != 0 || !pieces && size == 0:
		return status, true
	case pieces:
		p.waits = forNumber
	default:
		p.waits, p.left = forBytes, size
	}
	return 0, false
}

// takeByte takes a byte of the body, and tells whether it is the last one that is waited for.
func (p *Parser) takeByte(c byte) bool {
	p.now.Body = append(p.now.Body, c)
	p.left--
	return p.left == 0
}

func (p *Parser) takeNumber(c byte) (status int, done bool) {
	p.add(c)
	if c != '\n' {
		if len(p.text) >= longestLine {
			return 400, true
		}
		return 0, false
	}
	n, ok := pieceSize(p.clear())
	switch {
	case !ok:
		return 400, true
	case len(p.now.Body)+n > api.MaxHTTP:
		return 413, true
	case n == 0:
		p.waits = forTail
	default:
		p.waits, p.left = forPiece, n
	}
	return 0, false
}

// takeJust takes a byte that must be that one, and waits for what is next behind it.
func (p *Parser) takeJust(c, just byte, next waits) (status int, done bool) {
	if c != just {
		return 400, true
	}
	p.waits = next
	return 0, false
}

func (p *Parser) takeTail(c byte) (status int, done bool) {
	switch empty := p.add(c); {
	case empty:
		return tailStatus(p.clear()), true
	case len(p.text) >= longestTail:
		return 431, true
	}
	return 0, false
}
