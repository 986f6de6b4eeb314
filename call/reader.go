package call

import (
	"demesne/api"
)

// From how much on a word is too great: for an address, a grant's number, an operation's place, a register.
const (
	topAddr    = api.TopPage * api.PageSize
	grants     = api.MaxProcs * api.MaxGrants
	operations = 8
	registers  = 4
)

// reader goes through the words of a call, from the first on. What isn't as a call has it ends the reading by a panic.
type reader struct {
	words Words
	next  int
}

// call: the call that the words begin with.
func (r *reader) call() Call {
	c := Call{Op: r.number(Move + 1)}
	switch c.Op {
	case Map, Protect:
		c.Pages = r.pages()
		c.Perm = r.perm()
	case Unmap:
		c.Pages = r.pages()
	case Load:
		c.Addr, c.Size = r.place()
	case Store:
		c.Addr, c.Size = r.place()
		c.X = r.sized(c.Size)
	case Offer:
		c.Pages = r.page()
		c.Id = r.number(api.MaxProcs)
		c.Perm.Write = r.below(2) == 1
	case Accept:
		c.Id = r.number(grants)
		c.Pages = r.page()
	case Revoke, Leave:
		c.Id = r.number(grants)
	case Handler:
		c.Addr = r.below(topAddr)
	case Return, Exit, Yield: // no words behind these
	case Spawn:
		c.Id = r.number(api.MaxFrames + 1)
	case Reckon:
		c.Id = r.number(operations) + 1
		c.A = r.number(registers)
		c.B = r.number(registers)
		c.D = r.number(registers)
	case Move:
		c.Id = r.number(registers)
		c.X = r.word()
	default:
		insist(false)
	}
	return c
}

// end: the words that the call doesn't use are 0, or it would have several spellings.
func (r *reader) end() {
	for _, x := range r.words[r.next:] {
		insist(x == 0)
	}
}

// word: the next word, whatever it is.
func (r *reader) word() uint64 {
	x := r.words[r.next]
	r.next++
	return x
}

// below: the next word, which is less than limit.
func (r *reader) below(limit uint64) uint64 {
	x := r.word()
	insist(x < limit)
	return x
}

// number: the next word, which is less than limit, where a call has an int: it is compared ahead of that, for a great word would become one below 0.
func (r *reader) number(limit uint64) int {
	return int(r.below(limit))
}

// pages: the next two words, as pages.
func (r *reader) pages() api.Range {
	from := r.number(api.TopPage)
	many := r.number(api.MaxPages + 1)
	insist(many > 0 && from+many <= api.TopPage)
	return api.Range{From: from, To: from + many}
}

// page: the next word, as one page.
func (r *reader) page() api.Range {
	from := r.number(api.TopPage)
	return api.Range{From: from, To: from + 1}
}

// perm: the next word, as how pages may be used. What a process maps is always the user's.
func (r *reader) perm() api.Perm {
	bits := r.below(writeBit + execBit + 1)
	return api.Perm{Write: bits&writeBit != 0, User: true, Exec: bits&execBit != 0}
}

// place: the next two words, as an address and a size that divides it.
func (r *reader) place() (addr uint64, size int) {
	addr = r.below(topAddr)
	size = r.number(9)
	insist(size == 1 || size == 2 || size == 4 || size == 8)
	insist(addr%uint64(size) == 0)
	return addr, size
}

// sized: the next word, as a number of so many bytes. (Of 8 bytes all are: a shift by all bits leaves 0.)
func (r *reader) sized(size int) uint64 {
	x := r.word()
	insist(x>>(8*uint64(size)) == 0)
	return x
}

// insist: the reading ends here, if that isn't so.
func insist(so bool) {
	if !so {
		panic(refusal{err: api.ErrInval})
	}
}
