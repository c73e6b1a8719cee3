package plan

import (
	"errors"
	"testing"

	"drumline/api"
)

func TestErrorsAreWrapped(t *testing.T) {
	for _, x := range []struct {
		c    api.Config
		err  error
		at   int
		text string
	}{
		{api.Config{}, errParts, 0, "0: too few or too many parts"},
		{api.Config{Parts: []api.Part{{Nodes: 1}, {}}}, errNodes, 1, "1: the part cannot have these nodes and faults"},
		{api.Config{Parts: make([]api.Part, 1), Links: make([]api.Link, 11)}, errNodes, 0, "0: the part cannot have these nodes and faults"},
		{api.Config{Parts: []api.Part{{Nodes: 1}}, Links: make([]api.Link, 11)}, errLinks, 0, "0: too many links"},
		{api.Config{Parts: []api.Part{{Nodes: 1}}, Links: make([]api.Link, 1)}, errEnds, 0, "0: the link does not join a part to a later one"},
		{api.Config{Parts: []api.Part{{Nodes: 1}, {Nodes: 1}}, Links: []api.Link{{B: 1}}}, errPorts, 0, "0: the link cannot have these ports"},
		{api.Config{Parts: []api.Part{{Nodes: 1}, {Nodes: 1}}}, errApart, 1, "1: the part is not reached from part 0"},
	} {
		err := check(x.c)
		var f *fault
		if !errors.Is(err, x.err) || !errors.As(err, &f) || f.at != x.at || err.Error() != x.text {
			t.Errorf("P501: the error of %+v: %v", x.c, err)
		}
	}
	if err := check(api.Config{Parts: []api.Part{{Nodes: 1}}}); err != nil {
		t.Errorf("P501: an error of a part alone: %v", err)
	}
}
