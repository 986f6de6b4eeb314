package flat

import (
	"testing"

	"demesne/api"
	"demesne/call"
	"demesne/share"
)

// two: processes 0 and 1, which may have so many frames; process 0 has pages 0 to 3, page 0 with 5 at address 8, page 1 is read alone.
func two(t *testing.T, frames uint64) *world {
	t.Helper()
	x := beside(t, plan(99, 3, 1, 2, 1, 2, 1, 2, 1, 2, 1, 2, 1, 2, 1, 2))
	x.fine(0, call.Map, 0, 4, 1)
	x.fine(0, call.Protect, 1, 1, 2)
	x.fine(0, call.Store, 8, 8, 5)
	x.fine(0, call.Load, page, 8)
	x.fine(1, call.Spawn, frames)
	return x
}

func (x *world) wantGrant(id int, want share.Grant) {
	x.t.Helper()
	if g, ok := x.m.grants.Get(id); !ok || g != want {
		x.t.Errorf("grant %d: %+v, %v; want %+v", id, g, ok, want)
	}
}

// P19.1: each error of Offer, in its order.
func TestOffer(t *testing.T) {
	x := two(t, 20)
	x.refused(api.ErrNone, call.Offer, 0, 2, 1)
	x.refused(api.ErrNone, call.Offer, 0, 15, 0)
	x.refused(api.ErrNone, call.Offer, 0, 0, 1)
	x.refused(api.ErrNone, call.Offer, 2, 1, 0) // it leads nowhere yet
	x.refused(api.ErrNone, call.Offer, 9, 1, 0) // it isn't a page of this one
	x.refused(api.ErrPerm, call.Offer, 1, 1, 1) // it may be read alone
	x.refused(api.ErrNone, call.Offer, 1, 0, 1) // oneself goes ahead of that
	x.refused(api.ErrNone, call.Offer, 1, 7, 1)
	for id := range uint64(api.MaxGrants) {
		x.fine(id, call.Offer, id%2, 1, 0)
	}
	x.refused(api.ErrBig, call.Offer, 0, 1, 0)
	x.refused(api.ErrPerm, call.Offer, 1, 1, 1) // that goes ahead of it
	x.refused(api.ErrNone, call.Offer, 2, 1, 1)
	x.fine(0, call.Revoke, 5)
	x.fine(0, call.Revoke, 3)
	x.fine(3, call.Offer, 0, 1, 1)
	x.wantGrant(3, share.Grant{To: 1, Write: true})
	x.turnOf(1)
	x.fine(0, call.Accept, 0, 9)
	x.refused(api.ErrNone, call.Offer, 9, 0, 0) // borrowed
	x.fine(0, call.Map, 7, 1, 1)
	x.fine(0, call.Store, 7*page, 1, 1)
	x.fine(16, call.Offer, 7, 0, 0)
	x.wantGrant(16, share.Grant{From: 1, Page: 7})
}

// P19.1: both see the same bytes; a borrowed page costs its taker tables, and no frame.
func TestAccept(t *testing.T) {
	x := two(t, 20)
	x.fine(0, call.Offer, 0, 1, 0)
	x.fine(1, call.Offer, 0, 1, 1)
	x.wantUsed(0, 6)
	x.turnOf(1)
	x.faults(8, 4, call.Load, 8, 8)
	x.fine(0, call.Accept, 0, 9)
	x.wantGrant(0, share.Grant{To: 1, Taken: true, At: 9})
	x.wantUsed(1, 4)
	x.fine(5, call.Load, 9*page+8, 8)
	x.faults(9*page+8, 7, call.Store, 9*page+8, 8, 6)
	x.fine(0, call.Accept, 1, 10)
	x.wantUsed(1, 4)
	x.fine(0, call.Store, 10*page+8, 8, 6)
	x.fine(6, call.Load, 9*page+8, 8)
	x.wantUsed(0, 6)
	x.turnOf(0)
	x.fine(6, call.Load, 8, 8)
	x.fine(0, call.Store, 8, 8, 7)
	x.turnOf(1)
	x.fine(7, call.Load, 9*page+8, 8)
	x.fine(0, call.Leave, 0)
	x.wantUsed(1, 4)
	x.fine(0, call.Leave, 1)
	x.wantUsed(1, 1)
	x.wantUsed(0, 6)
}

// P19.1: each error of Accept, in its order; when the lending is refused the grant isn't taken.
func TestAcceptRefused(t *testing.T) {
	x := two(t, 3)
	x.fine(2, call.Spawn, 20)
	x.fine(0, call.Offer, 0, 1, 1)
	x.refused(api.ErrNone, call.Accept, 0, 9) // one's own
	x.turnOf(2)
	x.refused(api.ErrNone, call.Accept, 0, 9)
	x.turnOf(1)
	x.refused(api.ErrNone, call.Accept, 1, 9)
	x.refused(api.ErrNone, call.Accept, 255, 9)
	for i := range uint64(api.MaxRegions) {
		x.fine(0, call.Map, 2*i, 1, 1)
	}
	x.turnOf(0)
	x.fine(0, call.Unmap, 0, 1)
	x.turnOf(1)
	x.refused(api.ErrNone, call.Accept, 0, 8) // the page is gone; that goes ahead of the place
	x.turnOf(0)
	x.fine(0, call.Map, 0, 1, 0)
	x.turnOf(1)
	x.refused(api.ErrNone, call.Accept, 0, 8) // it is there, but leads nowhere
	x.turnOf(0)
	x.fine(0, call.Load, 0, 1)
	x.turnOf(1)
	x.refused(api.ErrPerm, call.Accept, 0, 8)
	x.turnOf(0)
	x.fine(0, call.Protect, 0, 1, 1)
	x.turnOf(1)
	x.refused(api.ErrThere, call.Accept, 0, 8)
	x.refused(api.ErrBig, call.Accept, 0, 999)
	x.refused(api.ErrBig, call.Accept, 0, 9)
	x.fine(0, call.Unmap, 0, 1)
	x.refused(api.ErrQuota, call.Accept, 0, 999)
	x.refused(api.ErrNone, call.Leave, 0)
	x.wantGrant(0, share.Grant{To: 1, Write: true})
}

// P19.1: a grant that is taken can't be taken again; that goes ahead of what the lending would say.
func TestAcceptTaken(t *testing.T) {
	x := two(t, 4)
	x.fine(0, call.Offer, 0, 1, 1)
	x.fine(1, call.Offer, 1, 1, 0)
	x.turnOf(1)
	x.fine(0, call.Accept, 0, 9)
	x.refused(api.ErrBusy, call.Accept, 0, 10)
	x.refused(api.ErrBusy, call.Accept, 0, 9)
	x.refused(api.ErrThere, call.Accept, 1, 9)
	x.refused(api.ErrQuota, call.Accept, 1, 512)
	x.fine(0, call.Accept, 1, 511)
	x.wantUsed(1, 4)
}

// P19.1: what Accept costs, by which tables its taker has; with a frame less it is refused.
func TestAcceptCosts(t *testing.T) {
	for _, c := range []struct {
		at   uint64
		cost int
	}{{1, 0}, {511, 0}, {512, 1}, {1 << 18, 2}, {1 << 27, 3}, {api.TopPage - 1, 3}} {
		for frames := 5 + c.cost - 1; frames <= 5+c.cost; frames++ {
			if frames < 5 {
				continue
			}
			x := two(t, uint64(frames))
			x.fine(0, call.Offer, 0, 1, 1)
			x.turnOf(1)
			x.fine(0, call.Map, 0, 1, 1)
			x.fine(0, call.Store, 0, 8, 7)
			x.wantUsed(1, 5)
			if frames < 5+c.cost {
				x.refused(api.ErrQuota, call.Accept, 0, c.at)
				x.wantGrant(0, share.Grant{To: 1, Write: true})
				continue
			}
			x.fine(0, call.Accept, 0, c.at)
			x.wantUsed(1, 5+c.cost)
			x.fine(5, call.Load, c.at*page+8, 8)
			x.fine(0, call.Unmap, 0, 1)
			if c.cost > 0 {
				x.wantUsed(1, 4) // its own tables are there still, and none that led to page 0 alone
			}
			x.turnOf(0)
			x.fine(0, call.Revoke, 0)
			x.wantUsed(1, 1)
			x.wantUsed(0, 6)
		}
	}
}

// P19.1: behind Revoke the taker's next use faults; what the owner writes doesn't show, also where the taker maps the page itself.
func TestRevoke(t *testing.T) {
	x := two(t, 20)
	x.refused(api.ErrNone, call.Revoke, 0)
	x.fine(0, call.Offer, 0, 1, 1)
	x.fine(1, call.Offer, 0, 1, 0)
	x.turnOf(1)
	x.refused(api.ErrNone, call.Revoke, 0)
	x.fine(0, call.Accept, 0, 9)
	x.fine(0, call.Accept, 1, 11)
	x.fine(0, call.Handler, 64)
	x.turnOf(0)
	x.refused(api.ErrNone, call.Leave, 0)
	x.fine(0, call.Revoke, 0)
	x.refused(api.ErrNone, call.Revoke, 0)
	x.refused(api.ErrBusy, call.Unmap, 0, 1)
	x.fine(0, call.Store, 8, 8, 7)
	x.turnOf(1)
	x.up(9*page+8, 4, call.Load, 9*page+8, 8)
	x.faults(9*page+8, 6, call.Store, 9*page+8, 8, 1)
	x.fine(7, call.Load, 11*page+8, 8)
	x.fine(0, call.Map, 9, 1, 1)
	x.fine(0, call.Load, 9*page+8, 8)
	x.fine(0, call.Store, 9*page+8, 8, 9)
	x.turnOf(0)
	x.fine(7, call.Load, 8, 8)
	x.fine(0, call.Revoke, 1)
	x.fine(0, call.Unmap, 0, 1)
	x.wantUsed(0, 5)
	x.wantUsed(1, 5)
}

// P19.1: a grant that wasn't taken goes without a page, and the page was never busy.
func TestRevokeOfWhatWasntTaken(t *testing.T) {
	x := two(t, 20)
	x.fine(0, call.Offer, 0, 1, 1)
	x.fine(0, call.Unmap, 0, 1)
	x.fine(0, call.Map, 0, 1, 1)
	x.fine(0, call.Protect, 0, 1, 2)
	x.turnOf(1)
	x.fine(0, call.Map, 0, 1, 1)
	x.fine(0, call.Store, 8, 8, 6)
	x.turnOf(0)
	x.fine(0, call.Revoke, 0)
	x.turnOf(1)
	x.fine(6, call.Load, 8, 8)
	x.refused(api.ErrNone, call.Accept, 0, 9)
}

// P19.1: who leaves a page has it no more, and can take it again, elsewhere.
func TestLeave(t *testing.T) {
	x := two(t, 20)
	x.fine(0, call.Offer, 0, 1, 1)
	x.turnOf(1)
	x.refused(api.ErrNone, call.Leave, 0)
	x.refused(api.ErrNone, call.Leave, 7)
	x.fine(0, call.Accept, 0, 9)
	x.fine(0, call.Leave, 0)
	x.wantUsed(1, 1)
	x.wantGrant(0, share.Grant{To: 1, Write: true})
	x.faults(9*page+8, 4, call.Load, 9*page+8, 8)
	x.refused(api.ErrNone, call.Leave, 0)
	x.fine(0, call.Accept, 0, 1<<27)
	x.wantUsed(1, 4)
	x.fine(5, call.Load, 1<<27*page+8, 8)
	x.fine(0, call.Leave, 0)
	x.turnOf(0)
	x.fine(0, call.Unmap, 0, 1)
}

// P19.1: giving back is never refused, also where a process has one region more behind it than it may have; then it gets no more.
func TestGiveBackInTheMidst(t *testing.T) {
	x := two(t, 20)
	for id := range uint64(3) {
		x.fine(id, call.Offer, 0, 1, 1)
	}
	x.turnOf(1)
	for id := range uint64(3) {
		x.fine(0, call.Accept, id, 500+id)
	}
	for i := range uint64(api.MaxRegions - 1) {
		x.fine(0, call.Map, 2*i, 1, 1)
	}
	x.fine(0, call.Leave, 1)
	x.faults(501*page+8, 4, call.Load, 501*page+8, 8)
	x.fine(5, call.Load, 500*page+8, 8)
	x.fine(5, call.Load, 502*page+8, 8)
	x.refused(api.ErrForm, call.Map, 900, 1, 1)
	x.refused(api.ErrForm, call.Map, 0, 1, 1)
	x.refused(api.ErrForm, call.Unmap, 0, 1)
	x.refused(api.ErrForm, call.Protect, 0, 1, 0)
	x.refused(api.ErrForm, call.Accept, 1, 501)
	x.fine(0, call.Store, 0, 8, 1)
	x.fine(0, call.Leave, 0)
	x.fine(0, call.Unmap, 0, 1)
	x.fine(0, call.Exit)
	x.fine(0, call.Unmap, 0, 4)
	x.wantUsed(0, 1)
}
