package kernel

import (
	"testing"

	"demesne/api"
	"demesne/call"
	"demesne/share"
)

// pair: a kernel with processes 0 and 1, which may have so many frames; process 0 has pages 0 to 3, page 0 with 5 at address 8, page 1 is read alone.
func pair(t *testing.T, frames uint64) *Kernel {
	t.Helper()
	k := boot(t, plan(100, 3, 1, 2, 1, 2, 1, 2, 1, 2, 1, 2, 1, 2, 1, 2))
	fine(t, k, 0, call.Map, 0, 4, 1)
	fine(t, k, 0, call.Protect, 1, 1, 2)
	fine(t, k, 0, call.Store, 8, 8, 5)
	fine(t, k, 0, call.Load, page, 8)
	fine(t, k, 1, call.Spawn, frames)
	return k
}

func wantGrant(t *testing.T, k *Kernel, id int, want share.Grant) {
	t.Helper()
	if g, ok := k.grants.Get(id); !ok || g != want {
		t.Errorf("grant %d: %+v, %v; want %+v", id, g, ok, want)
	}
}

// P18.1: who isn't there, oneself, and pages that can't be lent are refused; the first of the errors is told.
func TestOfferRefused(t *testing.T) {
	k := pair(t, 20)
	refused(t, k, api.ErrNone, call.Offer, 0, 2, 1)
	refused(t, k, api.ErrNone, call.Offer, 0, 15, 0)
	refused(t, k, api.ErrNone, call.Offer, 0, 0, 1)
	refused(t, k, api.ErrNone, call.Offer, 2, 1, 0) // it leads nowhere yet
	refused(t, k, api.ErrNone, call.Offer, 9, 1, 0) // it isn't a page of this one
	refused(t, k, api.ErrPerm, call.Offer, 1, 1, 1) // it may be read alone
	refused(t, k, api.ErrNone, call.Offer, 1, 0, 1) // oneself goes ahead of that
	refused(t, k, api.ErrNone, call.Offer, 1, 7, 1)
	fine(t, k, 0, call.Offer, 0, 1, 1)
	turnOf(t, k, 1)
	refused(t, k, api.ErrNone, call.Offer, 0, 0, 0) // the other one's page, which isn't taken yet
	fine(t, k, 0, call.Accept, 0, 9)
	refused(t, k, api.ErrNone, call.Offer, 9, 0, 0) // borrowed
	wantGrants(t, k, 0, 0)
	wantGrants(t, k, 1, 0)
}

// P18.1: a process has at most 16 grants; each has the least number that is free.
func TestOfferMany(t *testing.T) {
	k := pair(t, 20)
	fine(t, k, 2, call.Spawn, 20)
	for id := range uint64(api.MaxGrants) {
		fine(t, k, id, call.Offer, id%2, 1+id%2, 0)
	}
	refused(t, k, api.ErrBig, call.Offer, 0, 1, 0)
	refused(t, k, api.ErrPerm, call.Offer, 1, 1, 1) // that goes ahead of it
	wantGrants(t, k, 1, 0, 2, 4, 6, 8, 10, 12, 14)
	wantGrants(t, k, 2, 1, 3, 5, 7, 9, 11, 13, 15)
	fine(t, k, 0, call.Revoke, 5)
	fine(t, k, 0, call.Revoke, 3)
	fine(t, k, 3, call.Offer, 0, 2, 1)
	wantGrant(t, k, 3, share.Grant{To: 2, Write: true})
	turnOf(t, k, 1)
	fine(t, k, 0, call.Map, 7, 1, 1)
	fine(t, k, 0, call.Store, 7*page, 1, 1)
	fine(t, k, 16, call.Offer, 7, 2, 0)
	wantGrant(t, k, 16, share.Grant{From: 1, Page: 7, To: 2})
}

// P18.1: both see the same bytes; who may only read it doesn't write.
func TestAccept(t *testing.T) {
	k := pair(t, 20)
	fine(t, k, 0, call.Offer, 0, 1, 0)
	fine(t, k, 1, call.Offer, 0, 1, 1)
	wantGrant(t, k, 0, share.Grant{To: 1})
	used := get(t, k, 0).Used
	turnOf(t, k, 1)
	faults(t, k, 8, 4, call.Load, 8, 8)
	fine(t, k, 0, call.Accept, 0, 9)
	wantGrant(t, k, 0, share.Grant{To: 1, Taken: true, At: 9})
	fine(t, k, 5, call.Load, 9*page+8, 8)
	faults(t, k, 9*page+8, 7, call.Store, 9*page+8, 8, 6)
	if v := get(t, k, 1); v.Used != 4 {
		t.Errorf("the taker has %+v", v) // three tables and the root, and no frame
	}
	fine(t, k, 0, call.Accept, 1, 10)
	fine(t, k, 0, call.Store, 10*page+8, 8, 6)
	fine(t, k, 6, call.Load, 9*page+8, 8)
	if v := get(t, k, 0); v.Used != used {
		t.Errorf("the owner has %+v", v)
	}
	turnOf(t, k, 0)
	fine(t, k, 6, call.Load, 8, 8)
	fine(t, k, 0, call.Store, 8, 8, 7)
	turnOf(t, k, 1)
	fine(t, k, 7, call.Load, 9*page+8, 8)
	fine(t, k, 7, call.Load, 10*page+8, 8)
	refused(t, k, api.ErrBusy, call.Unmap, 9, 1)
	refused(t, k, api.ErrBusy, call.Protect, 10, 1, 0)
	turnOf(t, k, 0)
	refused(t, k, api.ErrBusy, call.Unmap, 0, 4)
	refused(t, k, api.ErrBusy, call.Protect, 0, 1, 0)
}

// P18.1: a taken page isn't fetched from, and is the user's.
func TestAcceptPerm(t *testing.T) {
	k := boot(t, plan(100, 3))
	fine(t, k, 0, call.Map, 0, 1, 3)
	fine(t, k, 0, call.Store, 0, 1, 1)
	fine(t, k, 1, call.Spawn, 20)
	fine(t, k, 0, call.Offer, 0, 1, 0)
	fine(t, k, 1, call.Offer, 0, 1, 1)
	turnOf(t, k, 1)
	fine(t, k, 0, call.Accept, 0, 4)
	fine(t, k, 0, call.Accept, 1, 6)
	l := k.Machine().Regions(1)
	if len(l) != 2 || l[0].Perm != (api.Perm{User: true}) || l[1].Perm != (api.Perm{Write: true, User: true}) {
		t.Errorf("regions: %+v", l)
	}
}

// P18.1: what isn't offered to this one, or is taken, can't be taken.
func TestAcceptRefused(t *testing.T) {
	k := pair(t, 20)
	fine(t, k, 2, call.Spawn, 20)
	fine(t, k, 0, call.Offer, 0, 1, 1)
	refused(t, k, api.ErrNone, call.Accept, 0, 9) // one's own
	turnOf(t, k, 2)
	refused(t, k, api.ErrNone, call.Accept, 0, 9)
	turnOf(t, k, 1)
	refused(t, k, api.ErrNone, call.Accept, 1, 9)
	refused(t, k, api.ErrNone, call.Accept, 255, 9)
	fine(t, k, 0, call.Accept, 0, 9)
	refused(t, k, api.ErrBusy, call.Accept, 0, 10)
	refused(t, k, api.ErrBusy, call.Accept, 0, 9)
}

// P18.1: when the lending is refused, the grant isn't taken, and can be taken later.
func TestAcceptWhoseLendIsRefused(t *testing.T) {
	for _, c := range []struct {
		what         string
		owner, taker []uint64 // what they ask ahead of it
		at           uint64
		want         api.Errno
	}{
		{"the page is gone", []uint64{call.Unmap, 0, 1}, nil, 9, api.ErrNone},
		{"it may be read alone", []uint64{call.Protect, 0, 1, 0}, nil, 9, api.ErrPerm},
		{"the place is taken", nil, []uint64{call.Map, 8, 2, 1}, 9, api.ErrThere},
	} {
		k := pair(t, 20)
		fine(t, k, 0, call.Offer, 0, 1, 1)
		if c.owner != nil {
			fine(t, k, 0, c.owner...)
		}
		turnOf(t, k, 1)
		if c.taker != nil {
			fine(t, k, 0, c.taker...)
		}
		t.Log(c.what)
		refused(t, k, c.want, call.Accept, 0, c.at)
		wantGrant(t, k, 0, share.Grant{To: 1, Write: true})
		refused(t, k, api.ErrNone, call.Leave, 0)
		if c.taker != nil {
			fine(t, k, 0, call.Accept, 0, 20)
			continue
		}
		turnOf(t, k, 0)
		if c.want == api.ErrNone {
			fine(t, k, 0, call.Map, 0, 1, 1)
			fine(t, k, 0, call.Store, 8, 8, 55)
		} else {
			fine(t, k, 0, call.Protect, 0, 1, 1)
		}
		turnOf(t, k, 1)
		fine(t, k, 0, call.Accept, 0, 9)
	}
}

// P18.1: the page is mapped anew, but leads nowhere.
func TestAcceptOfAPageWithoutAFrame(t *testing.T) {
	k := pair(t, 20)
	fine(t, k, 0, call.Offer, 0, 1, 1)
	fine(t, k, 0, call.Unmap, 0, 1)
	fine(t, k, 0, call.Map, 0, 1, 1)
	turnOf(t, k, 1)
	refused(t, k, api.ErrNone, call.Accept, 0, 9)
}

// P18.1: the taker pays for its tables, and can't have more regions than there may be.
func TestAcceptCosts(t *testing.T) {
	for frames := uint64(1); frames <= 4; frames++ {
		k := pair(t, frames)
		fine(t, k, 0, call.Offer, 0, 1, 1)
		turnOf(t, k, 1)
		if frames < 4 {
			refused(t, k, api.ErrQuota, call.Accept, 0, 9)
			wantGrant(t, k, 0, share.Grant{To: 1, Write: true})
			continue
		}
		fine(t, k, 0, call.Accept, 0, 9)
	}
	k := pair(t, 20)
	fine(t, k, 0, call.Offer, 0, 1, 1)
	turnOf(t, k, 1)
	for i := range uint64(api.MaxRegions) {
		fine(t, k, 0, call.Map, 2*i, 1, 1)
	}
	refused(t, k, api.ErrBig, call.Accept, 0, 999)
	fine(t, k, 0, call.Unmap, 0, 1)
	fine(t, k, 0, call.Accept, 0, 999)
}

// P18.4: behind Revoke the taker's next use faults, whatever is kept of translations; what the owner writes doesn't show.
func TestRevoked(t *testing.T) {
	for _, choices := range [][]int{nil, {1, 1, 1, 1, 1, 1, 1, 1, 1, 1, 1, 1, 1, 1}, {2, 1, 2, 1, 2, 1, 2, 1, 2, 1, 2}} {
		k := boot(t, plan(60, 3, choices...))
		fine(t, k, 0, call.Map, 0, 1, 1)
		fine(t, k, 0, call.Store, 8, 8, 5)
		fine(t, k, 1, call.Spawn, 20)
		fine(t, k, 0, call.Offer, 0, 1, 1)
		turnOf(t, k, 1)
		fine(t, k, 0, call.Handler, 64)
		fine(t, k, 0, call.Accept, 0, 9)
		fine(t, k, 5, call.Load, 9*page+8, 8)
		fine(t, k, 0, call.Store, 9*page+8, 8, 6)
		turnOf(t, k, 0)
		refused(t, k, api.ErrBusy, call.Unmap, 0, 1)
		fine(t, k, 0, call.Revoke, 0)
		wantGrants(t, k, 0)
		wantGrants(t, k, 1)
		if v := get(t, k, 1); v.Used != 1 {
			t.Errorf("the taker has %+v", v)
		}
		fine(t, k, 0, call.Store, 8, 8, 7)
		turnOf(t, k, 1)
		up(t, k, 9*page+8, 4, call.Load, 9*page+8, 8)
		faults(t, k, 9*page+8, 6, call.Store, 9*page+8, 8, 1)
		fine(t, k, 0, call.Map, 9, 1, 1)
		fine(t, k, 0, call.Load, 9*page+8, 8)
		fine(t, k, 0, call.Store, 9*page+8, 8, 9)
		turnOf(t, k, 0)
		fine(t, k, 7, call.Load, 8, 8)
		fine(t, k, 0, call.Unmap, 0, 1)
		refused(t, k, api.ErrNone, call.Revoke, 0)
		if stale := k.Machine().Stale(); len(stale) > 0 {
			t.Errorf("stale: %+v", stale)
		}
	}
}

// P18.1: who revokes is the owner; a grant that wasn't taken goes without a page.
func TestRevoke(t *testing.T) {
	k := pair(t, 20)
	refused(t, k, api.ErrNone, call.Revoke, 0)
	fine(t, k, 0, call.Offer, 0, 1, 1)
	turnOf(t, k, 1)
	refused(t, k, api.ErrNone, call.Revoke, 0)
	turnOf(t, k, 0)
	refused(t, k, api.ErrNone, call.Leave, 0)
	fine(t, k, 0, call.Revoke, 0)
	wantGrants(t, k, 0)
	turnOf(t, k, 1)
	refused(t, k, api.ErrNone, call.Accept, 0, 9)
}

// P18.1: of a page that is lent twice one grant goes, and the other one stays; it is busy until both are gone.
func TestRevokeOfTwo(t *testing.T) {
	k := pair(t, 20)
	fine(t, k, 0, call.Offer, 0, 1, 1)
	fine(t, k, 1, call.Offer, 0, 1, 0)
	turnOf(t, k, 1)
	fine(t, k, 0, call.Accept, 0, 9)
	fine(t, k, 0, call.Accept, 1, 11)
	turnOf(t, k, 0)
	fine(t, k, 0, call.Revoke, 0)
	refused(t, k, api.ErrBusy, call.Unmap, 0, 1)
	turnOf(t, k, 1)
	faults(t, k, 9*page+8, 4, call.Load, 9*page+8, 8)
	fine(t, k, 5, call.Load, 11*page+8, 8)
	turnOf(t, k, 0)
	fine(t, k, 0, call.Revoke, 1)
	fine(t, k, 0, call.Unmap, 0, 1)
}

// P18.1: who leaves a page has it no more, and it can be taken again, elsewhere.
func TestLeave(t *testing.T) {
	k := pair(t, 20)
	fine(t, k, 0, call.Offer, 0, 1, 1)
	turnOf(t, k, 1)
	refused(t, k, api.ErrNone, call.Leave, 0)
	refused(t, k, api.ErrNone, call.Leave, 7)
	fine(t, k, 0, call.Accept, 0, 9)
	turnOf(t, k, 0)
	refused(t, k, api.ErrNone, call.Leave, 0) // the owner has nothing to leave
	turnOf(t, k, 1)
	fine(t, k, 5, call.Load, 9*page+8, 8)
	fine(t, k, 0, call.Leave, 0)
	wantGrant(t, k, 0, share.Grant{To: 1, Write: true})
	faults(t, k, 9*page+8, 4, call.Load, 9*page+8, 8)
	refused(t, k, api.ErrNone, call.Leave, 0)
	fine(t, k, 0, call.Accept, 0, 30)
	fine(t, k, 5, call.Load, 30*page+8, 8)
	fine(t, k, 0, call.Leave, 0)
	turnOf(t, k, 0)
	fine(t, k, 0, call.Unmap, 0, 1)
	fine(t, k, 0, call.Revoke, 0)
}

// P18.1: giving back is never refused, also where a space has one region more behind it than it may have; then it gets no more.
func TestGiveBackInTheMidst(t *testing.T) {
	k := pair(t, 20)
	for range 3 {
		told(t, k, Result{X: uint64(len(k.Grants(0)))}, call.Offer, 0, 1, 1)
	}
	turnOf(t, k, 1)
	for id := range uint64(3) {
		fine(t, k, 0, call.Accept, id, 500+id)
	}
	for i := range uint64(api.MaxRegions - 1) {
		fine(t, k, 0, call.Map, 2*i, 1, 1)
	}
	fine(t, k, 0, call.Leave, 1)
	faults(t, k, 501*page+8, 4, call.Load, 501*page+8, 8)
	fine(t, k, 5, call.Load, 500*page+8, 8)
	fine(t, k, 5, call.Load, 502*page+8, 8)
	refused(t, k, api.ErrForm, call.Map, 900, 1, 1)
	refused(t, k, api.ErrForm, call.Unmap, 0, 1)
	refused(t, k, api.ErrForm, call.Accept, 1, 501)
	fine(t, k, 0, call.Leave, 0)
	fine(t, k, 0, call.Unmap, 0, 1)
	fine(t, k, 0, call.Exit)
	wantGrants(t, k, 0)
	fine(t, k, 0, call.Unmap, 0, 4)
	wantFree(t, k, 96)
}
