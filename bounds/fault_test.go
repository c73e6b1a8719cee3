package bounds

import (
	"errors"
	"testing"

	"drumline/api"
)

func TestErrorsAreWrapped(t *testing.T) {
	one := api.Config{
		Parts: []api.Part{{Nodes: 1}},
		Cycle: 1000, Lead: 3, Slot: 7, Window: 3, Rate: 16000, Ages: 1, Listen: 3, Span: 3, Room: 3,
	}
	if err := check(one); err != nil {
		t.Errorf("P703: an error of a part alone: %v", err)
	}
	if n, at := number(nil), place(nil); n != api.OK || at != 0 {
		t.Errorf("P703: no error: %d, %d", n, at)
	}
	for _, x := range []struct {
		bend func(c *api.Config)
		at   int
		text string
	}{
		{func(c *api.Config) { c.Cycle = 0 }, 1, "1: the condition does not hold"},
		{func(c *api.Config) { c.Lost = -1 }, 5, "5: the condition does not hold"},
		{func(c *api.Config) { c.Window = 2 }, 6, "6: the condition does not hold"},
		{func(c *api.Config) { c.Rate = 15999 }, 10, "10: the condition does not hold"},
		{func(c *api.Config) { c.Listen = 2 }, 12, "12: the condition does not hold"},
		{func(c *api.Config) { c.Room = 2 }, 15, "15: the condition does not hold"},
	} {
		c := one
		x.bend(&c)
		err := check(c)
		var f *fault
		if !errors.Is(err, errRange) || !errors.As(err, &f) || f.at != x.at || err.Error() != x.text {
			t.Errorf("P703: the error of %+v: %v", c, err)
		}
		if n, at := number(err), place(err); n != api.ErrRange || at != x.at {
			t.Errorf("P703: the numbers of %v: %d, %d", err, n, at)
		}
	}
}

func TestErrorsOfParts(t *testing.T) {
	for _, x := range []struct {
		c    api.Config
		e    api.Errno
		at   int
		text string
	}{
		{api.Config{}, api.ErrParts, 0, "0: the parts and links have the error 7"},
		{api.Config{Parts: []api.Part{{Nodes: 1}, {}}}, api.ErrNodes, 1, "1: the parts and links have the error 8"},
		{api.Config{Parts: []api.Part{{Nodes: 1}, {Nodes: 1}}}, api.ErrApart, 1, "1: the parts and links have the error 13"},
	} {
		err := check(x.c)
		var f *fault
		var s *structure
		if errors.Is(err, errRange) || !errors.As(err, &f) || !errors.As(err, &s) || f.at != x.at || s.number != x.e || err.Error() != x.text {
			t.Errorf("P703: the error of %+v: %v", x.c, err)
		}
	}
}
