package code

import (
	"strconv"
	"strings"
	"transhumance/api"
	"transhumance/op"
)

const (
	head      = "func" // the first word of a function's first line
	mostWords = 4      // of a line: a head's
)

// Text returns the lines of p, or the empty string if p is not valid.
func Text(p api.Prog) string {
	if !May(p) {
		return ""
	}
	var b strings.Builder
	write := into(&b, func(n int) string { return " " + strconv.Itoa(n) })
	for _, f := range p {
		b.WriteString(head)
		write(f.Arity, f.Locals, f.Slots)
		b.WriteByte('\n')
		for _, x := range f.Code {
			b.WriteString(op.Name(x.Op))
			write(fields(x)...)
			b.WriteByte('\n')
		}
	}
	return b.String()
}

// Parse returns the program whose text is s and the number of lines, or the number of the line from which on s is no text of a program.
func Parse(s string) (api.Prog, int, api.Errno) {
	var d draft
	lines := 0
next:
	line, rest, ended := strings.Cut(s, "\n")
	if ended && d.add(line) {
		s = rest
		lines++
		goto next
	}
	if s != "" || !May(d.funcs) { // an invalid line or one without an end is left, or more lines are missing
		return nil, lines, api.ErrLine
	}
	return d.funcs, lines, api.OK
}

// draft is a program as far as its lines were read.
type draft struct {
	funcs api.Prog
}

// add takes one more line; it reports whether the line is valid.
func (d *draft) add(line string) bool {
	word, numbers, ok := words(line)
	switch {
	case !ok:
		return false
	case word == head:
		return d.open(numbers...)
	}
	return d.follow(word, numbers...)
}

// open begins a function.
func (d *draft) open(numbers ...int) bool {
	many := len(d.funcs)
	if len(numbers) != mostWords-1 || many == api.MaxFuncs || many > 0 && len(d.funcs[many-1].Code) == 0 {
		return false
	}
	f := api.Func{Arity: numbers[0], Locals: numbers[1], Slots: numbers[2]}
	d.funcs = append(d.funcs, f)
	return mayHead(f)
}

// follow adds an instruction to the function that was begun last.
func (d *draft) follow(name string, numbers ...int) bool {
	o, ok := op.Find(name)
	if !ok || len(numbers) != op.Fields(o) || len(d.funcs) == 0 {
		return false
	}
	var two [2]int
	copy(two[:], numbers)
	x := api.Instr{Op: o, A: two[0], B: two[1]}
	f := &d.funcs[len(d.funcs)-1]
	if !op.May(x) || len(f.Code) == api.MaxCode {
		return false
	}
	f.Code = append(f.Code, x)
	return true
}

// words returns a line's first word and the numbers behind it; false if what stands there is not numbers as Text writes them.
func words(line string) (string, []int, bool) {
	parts := strings.SplitN(line, " ", mostWords) // what is too much may be long: it stays in the last one, which is no number then
	var numbers []int
	for _, w := range parts[1:] {
		n, e := strconv.Atoi(w)
		if e != nil || strconv.Itoa(n) != w {
			return "", nil, false
		}
		numbers = append(numbers, n)
	}
	return parts[0], numbers, true
}
