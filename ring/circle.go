package ring

// circle is a ring of cells: behind the last one comes the first one again. Who calls turn or place has seen that it has cells.
type circle struct {
	cells []int32
	from  int // where the first item stands
	many  int // how many items there are
}

// turn has the items begin at the next cell, of 1, or at the one ahead, of -1.
func (c *circle) turn(by int) {
	c.from = (c.from + by + len(c.cells)) % len(c.cells)
}

// place is the cell of the item of that number, the first one's being 0; that of the number of all is the one behind the last item.
func (c *circle) place(nth int) *int32 {
	return &c.cells[(c.from+nth)%len(c.cells)]
}

// all goes through the items, from the first one to the last one.
func (c *circle) all(yield func(int32) bool) {
	for nth := range c.many {
		if !yield(*c.place(nth)) {
			return
		}
	}
}
