package code

import (
	"strings"
	"transhumance/api"
	"transhumance/op"
	"transhumance/wire"
)

// Encode returns the bytes of p, or the empty string if p is not valid.
func Encode(p api.Prog) string {
	if !May(p) {
		return ""
	}
	var b strings.Builder
	write := into(&b, wire.Put)
	write(len(p))
	for _, f := range p {
		write(f.Arity, f.Locals, f.Slots, len(f.Code))
		for _, x := range f.Code {
			b.WriteByte(byte(x.Op))
			write(fields(x)...)
		}
	}
	return b.String()
}

// Decode returns the program whose encoding is s, or what is wrong with s first.
func Decode(s string) (api.Prog, api.Errno) {
	d := decoder{text: s}
	p := d.prog()
	d.want(d.at == len(s), api.ErrRest)
	if d.err != api.OK {
		return nil, d.err
	}
	return p, api.OK
}

// decoder reads the bytes of a program up to its first error; from then on it reads zeros.
type decoder struct {
	text string
	at   int
	err  api.Errno
}

func (d *decoder) prog() api.Prog {
	var p api.Prog
	for range d.number(1, api.MaxFuncs) {
		p = append(p, d.function())
	}
	return p
}

func (d *decoder) function() api.Func {
	f := api.Func{Arity: d.number(0, api.MaxLocals), Locals: d.number(0, api.MaxLocals), Slots: d.number(0, api.MaxSlots)}
	for range d.number(1, api.MaxCode) {
		f.Code = append(f.Code, d.instr())
	}
	return f
}

// instr reads an instruction. Each field is tried as soon as it is read, since its error comes before those of what follows.
func (d *decoder) instr() api.Instr {
	x := api.Instr{Op: d.operation()}
	if op.Fields(x.Op) > 0 {
		x.A = d.read()
		d.want(op.May(x), api.ErrOp) // a field that is still to be read is 0, which every second field may be
	}
	if op.Fields(x.Op) > 1 {
		x.B = d.read()
		d.want(op.May(x), api.ErrOp)
	}
	return x
}

func (d *decoder) operation() int {
	d.want(d.at < len(d.text), api.ErrCut)
	if d.err != api.OK {
		return 0
	}
	o := int(d.text[d.at])
	d.want(o < api.Ops, api.ErrOp)
	d.at++
	return o
}

// number reads a number that is from first to last.
func (d *decoder) number(first, last int) int {
	n := d.read()
	d.want(within(n, first, last), api.ErrOp)
	if d.err != api.OK {
		return 0
	}
	return n
}

func (d *decoder) read() int {
	if d.err != api.OK {
		return 0
	}
	n, after, e := wire.Get(d.text, d.at)
	d.at, d.err = after, e
	return n
}

// want keeps the error e if ok does not hold, unless an earlier one is kept.
func (d *decoder) want(ok bool, e api.Errno) {
	if !ok && d.err == api.OK {
		d.err = e
	}
}
