package heap

// pageSize: so many cells get room at once.
const pageSize = 256

// page is the room of cells whose numbers are behind each other.
type page [pageSize]Value

// cells has a Value for each number. A page gets its room when one of its cells is put first: a great array of which little is put costs little.
type cells []*page

// get tells the Value of cell k: zero, if it wasn't put.
func (c cells) get(k int) Value {
	at := k / pageSize
	if at >= len(c) || c[at] == nil {
		return Value{}
	}
	return c[at][k%pageSize]
}

// put makes x the Value of cell k.
func (c *cells) put(k int, x Value) {
	at := k / pageSize
	if at >= len(*c) {
		*c = append(*c, make(cells, at+1-len(*c))...)
	}
	if (*c)[at] == nil {
		(*c)[at] = new(page)
	}
	(*c)[at][k%pageSize] = x
}
