package air

import (
	"slices"

	"drumline/api"
	"drumline/bounds"
	"drumline/plan"
	"drumline/table"
)

// bus is what the frames of a part are held against; it has no slots if the network does not fit, or there is no such part.
type bus struct {
	part, parts int
	gone        int
	slots       []api.Slot
	ports       []api.Port
}

// busOf returns the bus of a part.
func busOf(c api.Config, part int) bus {
	return bus{
		part:  part,
		parts: len(c.Parts),
		gone:  bounds.Gone(c),
		slots: table.Slots(c, part),
		ports: plan.Ports(c, part),
	}
}

// fits reports whether f may be sent in a slot.
func (b bus) fits(slot int, f api.Frame) bool {
	if slot < 0 || slot >= len(b.slots) {
		return false
	}
	s := b.slots[slot]
	if f.Part != b.part || f.Node != s.Node || !suits(f.Kind, s.Kind) {
		return false
	}
	switch f.Kind {
	case api.Sync:
		return b.areAges(f.Ages)
	case api.Gate:
		return b.isLink(f)
	case api.Member:
		return b.isLink(f) && b.areAges(f.Ages)
	case api.Data:
		return b.isLink(f) && b.isPart(f.From) && b.isPart(f.To) && f.From != f.To
	}
	return true
}

// suits reports whether frames of a kind may be sent in slots of another one.
func suits(kind, slot int) bool {
	return kind == slot || kind == api.Cold && slot == api.Sync
}

// areAges reports whether l holds an age for each part.
func (b bus) areAges(l []int) bool {
	return len(l) == b.parts && !slices.ContainsFunc(l, func(age int) bool {
		return age < 0 || age > b.gone
	})
}

// isLink reports whether f names the link of the port at its node.
func (b bus) isLink(f api.Frame) bool {
	return slices.ContainsFunc(b.ports, func(p api.Port) bool {
		return p.Node == f.Node && p.Link == f.Link
	})
}

// isPart reports whether the network has such a part.
func (b bus) isPart(part int) bool {
	return part >= 0 && part < b.parts
}
