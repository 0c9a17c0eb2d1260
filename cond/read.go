package cond

import "emend/api"

// conditional is one that is open: as much of it as was read.
type conditional struct {
	item    api.Item
	hasElse bool
}

// begin adds the branch that a line begins.
func (c *conditional) begin(line int) {
	c.item.Branches = append(c.item.Branches, api.Branch{Line: line})
}

// reader has what was read: items outside conditionals, and the conditionals that are open, the innermost one on top.
type reader struct {
	items []api.Item
	open  stack[conditional]
}

// wrong tells whether a line of a kind may not come next.
func (r *reader) wrong(kind int) api.Errno {
	inner := r.open.top()
	switch kind {
	case api.Elif, api.Else:
		if inner == nil || inner.hasElse {
			return api.ErrElse
		}
	case api.Endif:
		if inner == nil {
			return api.ErrElse
		}
	}
	return api.OK
}

// take reads a line that is not wrong.
func (r *reader) take(line, kind int) {
	switch kind {
	case api.If, api.Ifdef, api.Ifndef:
		c := conditional{item: api.Item{Line: line}}
		c.begin(line)
		r.open.push(c)
	case api.Elif, api.Else:
		inner := r.open.top()
		inner.hasElse = kind == api.Else
		inner.begin(line)
	case api.Endif:
		ended := r.open.pop().item
		ended.End = line
		r.add(ended)
	default:
		r.add(api.Item{Line: line, End: line})
	}
}

// add puts an item into the branch that is being read, if there is one.
func (r *reader) add(item api.Item) {
	inner := r.open.top()
	if inner == nil {
		r.items = append(r.items, item)
		return
	}
	branches := inner.item.Branches
	last := &branches[len(branches)-1]
	last.Items = append(last.Items, item)
}
