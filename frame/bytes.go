package frame

import (
	"cenotaph/api"
	"cenotaph/id"
	"cenotaph/item"
	"cenotaph/know"
	"cenotaph/matrix"
	"cenotaph/span"
	"cenotaph/vec"
	"cenotaph/wire"
	"cenotaph/zone"
)

// maxZoneText is more bytes than any zone's text has.
const maxZoneText = 2000

// Put is f's bytes; one that isn't Right has none.
func Put(f Frame) []byte {
	if !Right(f) {
		return nil
	}
	b := putNum(nil, f.Kind)
	b = putId(b, f.From)
	b = putId(b, f.To)
	if f.Kind == Stale {
		return putAll(b, f.Floor, putAt)
	}
	b = putAll(b, f.Know, putKnown)
	b = putNum(b, f.Clock)
	b = putAll(b, f.Members, putId)
	b = putAll(b, f.Certs, putAt)
	b = putAll(b, f.Rows, putRow)
	if f.Kind == Ask {
		b = putText(b, zone.Text(f.Zone))
	}
	b = putAll(b, f.Items, putItem)
	if f.Kind == Data {
		b = putNum(b, truth(f.Whole))
	}
	return b
}

// putAll is b with how many there are behind, and they.
func putAll[T any](b []byte, l []T, putOne func([]byte, T) []byte) []byte {
	b = putNum(b, len(l))
	for _, x := range l {
		b = putOne(b, x)
	}
	return b
}

// putNum and the other ones append to b itself, which is being made. The layers' own calls copy all of it: done for
// each number of a frame, that would be as much work as its bytes times its numbers.
func putNum(b []byte, n int) []byte { return append(b, wire.Put(nil, n)...) }

func putText(b []byte, s string) []byte { return append(b, wire.PutText(nil, s)...) }

func putItem(b []byte, x item.Item) []byte { return append(b, item.Put(nil, x)...) }

func putId(b []byte, a id.Id) []byte { return putText(b, string(a)) }

func putAt(b []byte, x vec.At) []byte { return putNum(putId(b, x.Id), x.N) }

func putRow(b []byte, x matrix.Row) []byte { return putAll(putId(b, x.Id), x.Vec, putAt) }

func putKnown(b []byte, x know.Row) []byte {
	return putAll(putNum(putId(b, x.Id), x.Span.Upto), x.Span.Extra, putNum)
}

func truth(is bool) int {
	if is {
		return 1
	}
	return 0
}

// Take is the frame that has those bytes. What they can't be by themselves counts ahead of what no frame may have.
func Take(b []byte) (Frame, api.Errno) {
	r := wire.Read(b)
	f, ok := take(r)
	if errno := r.Err(); errno != api.OK {
		return Frame{}, errno
	}
	if !ok || r.End() != api.OK || !Right(f) {
		return Frame{}, api.ErrForm
	}
	return f, api.OK
}

// take is what r has; false tells that it came to something behind which nothing is taken any more. It takes the parts
// line by line, since the bytes' order counts.
func take(r *wire.Reader) (Frame, bool) {
	f := Frame{Kind: r.Num(Stale)}
	if f.Kind == 0 {
		return f, false
	}
	f.From = takeId(r)
	f.To = takeId(r)
	if f.Kind == Stale {
		f.Floor = takeAll(r, maxCount, takeAt)
		return f, true
	}
	f.Know = takeAll(r, maxCount, takeKnown)
	f.Clock = takeNum(r)
	f.Members = takeAll(r, maxCount, takeId)
	f.Certs = takeAll(r, maxCount, takeAt)
	f.Rows = takeAll(r, maxCount, takeRow)
	return takeRest(r, f)
}

// takeRest is f with what comes behind its Rows.
func takeRest(r *wire.Reader, f Frame) (Frame, bool) {
	ok := true
	if f.Kind == Ask {
		f.Zone, ok = zone.Parse(r.Text(maxZoneText))
	}
	if !ok {
		return f, false
	}
	f.Items, ok = takeItems(r)
	if ok && f.Kind == Data {
		f.Whole = r.Num(1) == 1
	}
	return f, ok
}

// takeAll is as many as r says that there are. Where something is wrong on the way the rest is empty ones, which no frame
// comes of: most bounds them.
func takeAll[T any](r *wire.Reader, most int, takeOne func(*wire.Reader) T) []T {
	var l []T
	for range r.Num(most) {
		l = append(l, takeOne(r))
	}
	return l
}

func takeItems(r *wire.Reader) ([]item.Item, bool) {
	var l []item.Item
	for range r.Num(api.MaxBatch) {
		x, ok := item.Take(r)
		if !ok {
			return nil, false
		}
		l = append(l, x)
	}
	return l, true
}

func takeNum(r *wire.Reader) int { return r.Num(api.MaxSeq) }

func takeId(r *wire.Reader) id.Id { return id.Id(r.Text(api.MaxDepth)) }

func takeAt(r *wire.Reader) vec.At {
	a := takeId(r)
	n := takeNum(r)
	return vec.At{Id: a, N: n}
}

func takeRow(r *wire.Reader) matrix.Row {
	a := takeId(r)
	v := takeAll(r, maxCount, takeAt)
	return matrix.Row{Id: a, Vec: v}
}

func takeKnown(r *wire.Reader) know.Row {
	a := takeId(r)
	upto := takeNum(r)
	extra := takeAll(r, api.MaxExtra, takeNum)
	return know.Row{Id: a, Span: span.Span{Upto: upto, Extra: extra}}
}
