// Package bits is layer 1: numbers as rows of bits. See shared/doc/01-bits.md.
package bits

const (
	maxWidth = 32
	byteBits = 8
)

func isWidth(width int) bool { return width >= 1 && width <= maxWidth }

func isField(n, width int) bool {
	return isWidth(width) && n >= 0 && n>>width == 0
}

// shiftOf is by how much the bit at a place is shifted inside its byte: the first one is the highest.
func shiftOf(place int) int { return byteBits - 1 - place%byteBits }

// Pen writes bits.
type Pen struct {
	row   []byte // bits of the last byte that weren't written yet are 0
	count int
}

// Put writes a field.
func (p *Pen) Put(n, width int) bool {
	if p == nil || !isField(n, width) {
		return false
	}
	step := p.write
	for i := range width {
		step(n >> (width - 1 - i) & 1)
	}
	return true
}

// write is a pen's step: one bit behind all others.
func (p *Pen) write(bit int) {
	if p.count%byteBits == 0 {
		p.row = append(p.row, 0)
	}
	p.row[p.count/byteBits] |= byte(bit << shiftOf(p.count))
	p.count++
}

// Len is how many bits there are.
func (p *Pen) Len() int {
	if p == nil {
		return 0
	}
	return p.count
}

// Bytes are the bits as bytes.
func (p *Pen) Bytes() []byte {
	if p == nil {
		return nil
	}
	return copied(p.row)
}

// Eye reads bits.
type Eye struct {
	row []byte
	at  int
}

// Look is an eye at the first bit.
func Look(b []byte) *Eye {
	// The caller may change its bytes later on, and the eye must not see that.
	return &Eye{row: copied(b)}
}

// Get reads a field.
func (e *Eye) Get(width int) (int, bool) {
	if !isWidth(width) || width > e.Left() {
		return 0, false
	}
	step := e.read
	n := 0
	for range width {
		n = n<<1 | step()
	}
	return n, true
}

// read is an eye's step: the bit that it is at, which is behind it then.
func (e *Eye) read() int {
	bit := int(e.row[e.at/byteBits]) >> shiftOf(e.at) & 1
	e.at++
	return bit
}

// Left is how many bits are left.
func (e *Eye) Left() int {
	if e == nil {
		return 0
	}
	return len(e.row)*byteBits - e.at
}

func copied(b []byte) []byte {
	c := make([]byte, len(b))
	copy(c, b)
	return c
}
