package table

import (
	"strings"

	"namedesk/api"
	"namedesk/packed"
)

// signature begins each encoding.
const signature = "NDT1"

// Encode returns the encoding of tables.
func Encode(t api.Tables) (string, api.Errno) {
	if Check(t) != 0 {
		return "", api.ErrTable
	}
	code := encodeRows(t)
	code += packed.PutInt("", packed.Sum(code))
	if len(code) > api.MaxText {
		return "", api.ErrFull
	}
	return code, api.OK
}

// Decode returns the tables whose encoding is s.
func Decode(s string) (api.Tables, api.Errno) {
	t, err := decodeItems(s)
	if err == api.OK && Check(t) != 0 {
		err = api.ErrTable
	}
	if err != api.OK {
		return api.Tables{}, err
	}
	return t, api.OK
}

// encodeRows returns the encoding of well-formed tables without the sum. What packed refuses to
// write is not in well-formed tables, so that none of its errors can occur.
func encodeRows(t api.Tables) string {
	var b strings.Builder
	b.WriteString(signature)
	for _, l := range spanLists(t) {
		code, _ := packed.PutSpans("", l)
		b.WriteString(code)
	}
	for _, l := range mappingLists(t) {
		b.WriteString(packed.PutInt("", len(l)))
		for _, m := range l {
			code, _ := packed.PutList(packed.PutInt("", m.From), m.To)
			b.WriteString(code)
		}
	}
	code, _ := packed.PutList("", t.Excluded)
	b.WriteString(code)
	return b.String()
}

// decodeItems returns the tables that s contains, which need not be well-formed. With an error, they
// are those that were read before it.
func decodeItems(s string) (api.Tables, api.Errno) {
	switch {
	case len(s) > api.MaxText:
		return api.Tables{}, api.ErrFull
	case len(s) < len(signature):
		return api.Tables{}, api.ErrShort
	case !strings.HasPrefix(s, signature):
		return api.Tables{}, api.ErrForm
	}
	r := reader{text: s, next: len(signature)}
	t := r.tables()
	r.sumAndEnd()
	return t, r.err
}

// reader reads items one after the other. After its first error it reads nothing more.
type reader struct {
	text string
	next int // the index of the next item
	err  api.Errno
}

// tables reads all lists of tables, in the order of the encoding.
func (r *reader) tables() api.Tables {
	var t api.Tables
	t.Category = r.spans()
	t.Class = r.spans()
	t.Joining = r.spans()
	t.Bidi = r.spans()
	t.Script = r.spans()
	t.Status = r.spans()
	t.Ignorable = r.spans()
	t.Extensions = r.mappings()
	t.Maps = r.mappings()
	t.Decomps = r.mappings()
	t.Prototypes = r.mappings()
	t.Excluded = r.list()
	return t
}

// sumAndEnd reads the sum of all bytes before it, which nothing may follow.
func (r *reader) sumAndEnd() {
	sum := packed.Sum(r.text[:r.next])
	found := r.number()
	switch {
	case r.err != api.OK:
	case found != sum:
		r.err = api.ErrSum
	case r.next != len(r.text):
		r.err = api.ErrForm
	}
}

// mappings reads a list of mappings.
func (r *reader) mappings() []api.Mapping {
	n := r.number()
	if r.err == api.OK && (n < 0 || n > api.MaxRows) {
		r.err = api.ErrForm
	}
	if r.err != api.OK {
		return nil
	}
	l := make([]api.Mapping, 0, n)
	for range n {
		from := r.number()
		to := r.list()
		if r.err != api.OK {
			return nil
		}
		l = append(l, api.Mapping{From: from, To: to})
	}
	return l
}

// spans reads a list of spans.
func (r *reader) spans() []api.Span { return read(r, packed.GetSpans) }

// list reads a list of numbers.
func (r *reader) list() []int { return read(r, packed.GetList) }

// number reads a number.
func (r *reader) number() int { return read(r, packed.GetInt) }

// read reads the next item with a function of package packed. It returns a zero value if the item,
// or one before it, has an error.
func read[T any](r *reader, get func(string, int) (T, int, api.Errno)) T {
	var none T
	if r.err != api.OK {
		return none
	}
	item, next, err := get(r.text, r.next)
	if err != api.OK {
		r.err = err
		return none
	}
	r.next = next
	return item
}
