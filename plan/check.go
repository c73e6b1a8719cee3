package plan

import "drumline/api"

// check returns the first error of the parts and links of c, wrapped with its number.
func check(c api.Config) error {
	if len(c.Parts) < 1 || len(c.Parts) > api.MaxParts {
		return &fault{errParts, 0}
	}
	for i, p := range c.Parts {
		if !sound(p) {
			return &fault{errNodes, i}
		}
	}
	if len(c.Links) > api.MaxLinks {
		return &fault{errLinks, 0}
	}
	for i := range c.Links {
		if err := checkLink(c, i); err != nil {
			return &fault{err, i}
		}
	}
	if i, ok := apart(c); ok {
		return &fault{errApart, i}
	}
	return nil
}

// sound reports whether a part has enough nodes for its faults, and not too many of either.
func sound(p api.Part) bool {
	return p.Nodes >= 1 && p.Nodes <= api.MaxNodes &&
		p.Faults >= 0 && p.Faults <= api.MaxFaults &&
		p.Nodes >= 3*p.Faults+1
}

// checkLink returns the first error of link i; the links ahead of it have none.
func checkLink(c api.Config, i int) error {
	l, earlier := c.Links[i], c.Links[:i]
	if l.A < 0 || l.A >= l.B || l.B >= len(c.Parts) {
		return errEnds
	}
	for _, m := range earlier {
		if m.A == l.A && m.B == l.B {
			return errTwice
		}
	}
	for _, e := range ends(l) {
		if !free(c.Parts[e.part], e, earlier) {
			return errPorts
		}
	}
	return nil
}

// free reports whether an end of a link has two nodes of its part p, none of which is a port of an earlier link.
func free(p api.Part, e end, earlier []api.Link) bool {
	if e.nodes[0] == e.nodes[1] {
		return false
	}
	for _, node := range e.nodes {
		if node < 0 || node >= p.Nodes || taken(e.part, node, earlier) {
			return false
		}
	}
	return true
}

// taken reports whether a node of a part is a port of one of the links.
func taken(part, node int, links []api.Link) bool {
	for _, l := range links {
		for _, e := range ends(l) {
			if e.part == part && (e.nodes[0] == node || e.nodes[1] == node) {
				return true
			}
		}
	}
	return false
}

// apart returns the smallest part that part 0 does not reach over links; false if it reaches all.
func apart(c api.Config) (int, bool) {
	var reached [api.MaxParts]bool
	reached[0] = true
	// Each round reaches all parts that are one link further away, so there are never more rounds to go than parts.
	for range c.Parts {
		for _, l := range c.Links {
			both := reached[l.A] || reached[l.B]
			reached[l.A], reached[l.B] = both, both
		}
	}
	for i := range c.Parts {
		if !reached[i] {
			return i, true
		}
	}
	return 0, false
}
