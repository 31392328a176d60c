package compile

import "licit/api"

// plan is the items of a unit that are compiled, in this order.
type plan struct {
	private  map[string]bool // the items that are compiled only if something names them
	names    []string
	sections map[string]int // the index of each of the names
}

// newPlan returns the plan with the items that others can name from elsewhere.
func newPlan(u api.Unit) *plan {
	p := &plan{private: map[string]bool{}, sections: map[string]int{}}
	for _, i := range u.Items {
		switch i.Mode {
		case api.Private:
			p.private[i.Name] = true
		case api.Export, api.Weak:
			p.add(i.Name)
		}
	}
	return p
}

// add adds an item at the end.
func (p *plan) add(name string) {
	p.sections[name] = len(p.names)
	p.names = append(p.names, name)
}

// follow adds the private items that a section names, if they are not there yet.
func (p *plan) follow(s api.Section) {
	for _, r := range s.Relocs {
		if p.private[r.Symbol] && p.sectionOf(r.Symbol) < 0 {
			p.add(r.Symbol)
		}
	}
}

// sectionOf returns the index of the section of an item, and -1 if it has none.
func (p *plan) sectionOf(name string) int {
	if n, found := p.sections[name]; found {
		return n
	}
	return -1
}
