package jsonp

import (
	"waybill/api"
	"waybill/arena"
	"waybill/scan"
)

// want is what may come next.
type want int

const (
	wantValue want = iota
	wantFirstValue
	wantKey
	wantFirstKey
	wantColon
	wantMoreValues
	wantMoreMembers
	wantEnd
)

// aboveRoot is the number that a tree takes its root beneath.
const aboveRoot = -1

// reader reads a JSON text into a tree. It calls itself for no value within another one: these may stand in one another as deep as the bounds let them.
type reader struct {
	b    []byte
	deep int // the most lists and objects in one another
	tree *arena.Tree[api.Node]
	want want
	open []int  // the lists and objects that haven't ended, the innermost last
	key  string // that of the member whose value comes next
}

func (r *reader) read() error {
	for at := 0; ; {
		t, err := scan.Next(r.b, at)
		if err != nil {
			return err
		}
		if err := r.take(t); err != nil {
			return err
		}
		if t.Kind == api.TokEnd {
			return nil
		}
		at = t.To
	}
}

func (r *reader) take(t api.Token) error {
	if t.Kind == api.TokEnd && r.want != wantEnd {
		return api.Fail(api.ErrShort, t.From)
	}
	switch r.want {
	case wantFirstValue:
		if t.Kind == api.TokEndList {
			r.leave()
			return nil
		}
		fallthrough
	case wantValue:
		return r.takeValue(t)
	case wantFirstKey:
		if t.Kind == api.TokEndObject {
			r.leave()
			return nil
		}
		fallthrough
	case wantKey:
		return r.takeKey(t)
	case wantColon:
		return r.takeMark(t, api.TokColon, wantValue)
	case wantMoreValues:
		return r.takeMore(t, api.TokEndList, wantValue)
	case wantMoreMembers:
		return r.takeMore(t, api.TokEndObject, wantKey)
	default:
		return r.takeMark(t, api.TokEnd, wantEnd)
	}
}

func (r *reader) takeKey(t api.Token) error {
	if t.Kind != api.TokText {
		return api.Fail(api.ErrForm, t.From)
	}
	key, err := scan.Text(r.b, t)
	r.key, r.want = key, wantColon
	return err
}

// takeMark takes a token of one kind, behind which something else may come.
func (r *reader) takeMark(t api.Token, kind int, behind want) error {
	if t.Kind != kind {
		return api.Fail(api.ErrForm, t.From)
	}
	r.want = behind
	return nil
}

// takeMore takes the end of the innermost list or object, or the comma behind which it goes on.
func (r *reader) takeMore(t api.Token, end int, more want) error {
	if t.Kind == end {
		r.leave()
		return nil
	}
	return r.takeMark(t, api.TokComma, more)
}

func (r *reader) takeValue(t api.Token) error {
	n, err := r.node(t)
	if err != nil {
		return err
	}
	id, err := r.tree.Add(r.innermost(), n)
	if err != nil {
		// The tree tells of the number above, which is always there: all that can be wrong is that it is full.
		return api.Fail(api.ErrMany, t.From)
	}
	r.key = ""
	switch n.Kind {
	case api.NodeList:
		return r.enter(t, id, wantFirstValue)
	case api.NodeObject:
		return r.enter(t, id, wantFirstKey)
	default:
		r.want = r.behindValue()
		return nil
	}
}

// node gives the value that a token begins.
func (r *reader) node(t api.Token) (api.Node, error) {
	n := api.Node{Key: r.key, At: t.From}
	var err error
	switch t.Kind {
	case api.TokNull:
		n.Kind = api.NodeNull
	case api.TokFalse:
		n.Kind = api.NodeFalse
	case api.TokTrue:
		n.Kind = api.NodeTrue
	case api.TokNumber:
		n.Kind, n.Text = api.NodeNumber, string(r.b[t.From:t.To])
	case api.TokText:
		n.Kind = api.NodeText
		n.Text, err = scan.Text(r.b, t)
	case api.TokList:
		n.Kind = api.NodeList
	case api.TokObject:
		n.Kind = api.NodeObject
	default:
		err = api.Fail(api.ErrForm, t.From)
	}
	return n, err
}

// enter goes into a list or an object.
func (r *reader) enter(t api.Token, id int, first want) error {
	if len(r.open) >= r.deep {
		return api.Fail(api.ErrDeep, t.From)
	}
	r.open, r.want = append(r.open, id), first
	return nil
}

// leave goes out of the innermost list or object.
func (r *reader) leave() {
	r.open = r.open[:len(r.open)-1]
	r.want = r.behindValue()
}

// behindValue tells what may come behind a value that has ended.
func (r *reader) behindValue() want {
	inner, ok := r.tree.Value(r.innermost())
	switch {
	case !ok:
		return wantEnd
	case inner.Kind == api.NodeList:
		return wantMoreValues
	default:
		return wantMoreMembers
	}
}

func (r *reader) innermost() int {
	if len(r.open) == 0 {
		return aboveRoot
	}
	return r.open[len(r.open)-1]
}
