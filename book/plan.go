package book

// fewestBlocks is how many blocks a book's disk has at least.
const fewestBlocks = 24

// area is blocks of a disk that lie side by side.
type area struct{ from, count int }

// plan tells which blocks of a disk are for what.
type plan struct{ super, log, pages area }

// planFor is the plan of a disk of that many blocks.
func planFor(blocks int) plan {
	p := plan{super: area{0, 2}}
	p.log = area{p.super.end(), blocks / 4}
	p.pages = area{p.log.end(), blocks - p.log.end()}
	return p
}

// end is the block behind the area.
func (a area) end() int { return a.from + a.count }

// blocks tells the area's blocks, rising.
func (a area) blocks() []int {
	var list []int
	for i := a.from; i < a.end(); i++ {
		list = append(list, i)
	}
	return list
}

// without answers the blocks that aren't among the others. Both rise.
func without(blocks, others []int) []int {
	var left []int
	for _, i := range blocks {
		if len(others) > 0 && others[0] == i {
			others = others[1:]
		} else {
			left = append(left, i)
		}
	}
	return left
}
