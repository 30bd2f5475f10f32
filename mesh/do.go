package mesh

import (
	"cenotaph/api"
	"cenotaph/bag"
	"cenotaph/frame"
	"cenotaph/gc"
	"cenotaph/node"
	"cenotaph/swap"
)

// Do is m when something was done. The layers below answer beside an error what they were handed, so that what they
// answer is put back in any case.
func Do(m Mesh, o Op) (Mesh, api.Errno) {
	m = clone(m)
	e := mayDo(m, o)
	if e != api.OK {
		return m, e
	}
	switch o.Kind {
	case Create:
		return create(m, o)
	case Send:
		return send(m, o)
	case Deliver:
		return deliver(m, o)
	case Drop:
		m.Bag, e = bag.Drop(m.Bag, o.At)
	case Double:
		m.Bag, e = bag.Double(m.Bag, o.At)
	case Retire:
		i, k := place(m, o.Who), place(m, o.Other)
		m.Nodes[i], m.Nodes[k], e = node.Retire(m.Nodes[i], m.Nodes[k])
	default:
		i := place(m, o.Who)
		m.Nodes[i], e = alone(m.Nodes[i], o)
	}
	return m, e
}

// mayDo: is that something that is done, and are those replicas that it speaks of?
func mayDo(m Mesh, o Op) api.Errno {
	switch o.Kind {
	case Deliver, Drop, Double:
		return api.OK
	case Send, Retire:
		if place(m, o.Who) < 0 || place(m, o.Other) < 0 {
			return api.ErrId
		}
		return api.OK
	case Write, Delete, SetZone, Create, Expel, Gc:
		if place(m, o.Who) < 0 {
			return api.ErrId
		}
		return api.OK
	}
	return api.ErrArg
}

// alone is s when it did what changes nobody else.
func alone(s node.State, o Op) (node.State, api.Errno) {
	switch o.Kind {
	case Write:
		return node.Write(s, o.Key, o.Spot, o.Text)
	case Delete:
		return node.Delete(s, o.Key)
	case SetZone:
		return node.SetZone(s, o.Zone)
	case Expel:
		return node.Expel(s, o.Other)
	}
	s, _ = gc.Step(s)
	return s, api.OK
}

func create(m Mesh, o Op) (Mesh, api.Errno) {
	if len(m.Nodes) >= api.MaxNodes {
		return m, api.ErrFull
	}
	i := place(m, o.Who)
	s, child, e := node.Child(m.Nodes[i])
	if m.Nodes[i] = s; e == api.OK {
		m.Nodes = append(m.Nodes, child)
	}
	return m, e
}

func send(m Mesh, o Op) (Mesh, api.Errno) {
	f, e := swap.Ask(m.Nodes[place(m, o.Who)], o.Other)
	if e == api.OK {
		m.Bag, e = bag.Send(m.Bag, f)
	}
	return m, e
}

// deliver is m when a frame came. It isn't under way any more then, whatever comes of it.
func deliver(m Mesh, o Op) (Mesh, api.Errno) {
	f, rest, e := bag.Take(m.Bag, o.At)
	if m.Bag = rest; e != api.OK {
		return m, e
	}
	i := place(m, f.To)
	switch {
	case i < 0:
		return m, api.ErrId
	case f.Kind == frame.Ask:
		return answer(m, i, f)
	}
	m.Nodes[i], e = swap.Take(m.Nodes[i], f)
	return m, e
}

// answer is m when the replica in place i was asked, and what it sends back is under way.
func answer(m Mesh, i int, f frame.Frame) (Mesh, api.Errno) {
	s, d, e := swap.Answer(m.Nodes[i], f, m.Most)
	if m.Nodes[i] = s; e == api.OK {
		m.Bag, e = bag.Send(m.Bag, d)
	}
	return m, e
}
