import Derived.Test.YtgbdnnkkcpkhdaaGreatDoorKZc
import Derived.Test.YtgbdnnkkcpkhdaaGreatDoorChecked
import Derived.WalkKit
import Derived.ProofKit
import Derived.OpenShut
import Derived.Carry
import Derived.Lib.SmallJoins
import Derived.Deep.Light
import Derived.Deep.MidRow
import Derived.Deep.RegionHeld3
import Derived.Deep.DrawnRows
import Derived.Handy
import Derived.Laws.MakeOwn
import Derived.MapKept
import Derived.Laws.Tables
import Derived.Deep.Slices
import Derived.Laws.CopyRow
import Derived.BigQuiet
import Derived.Deep.QuietTactic
import Derived.ChangeKeysEq
import Derived.Laws.StructEq
import Derived.Deep.DeepCutAuto
import Derived.Deep.CutBlock
import Derived.Maps.AppendAt
import Derived.BigRegion
import Derived.WalkSmall
set_option linter.unusedSimpArgs false
set_option linter.unusedVariables false
set_option maxRecDepth 8000
set_option maxHeartbeats 1000000
open Go.ChangeShapes Go.WideShapes Go.ChangeAt Go.RowKit Go.Maps
namespace Go.Proofs.YtgbdnnkkcpkhdaaGreatDoor.Qu
structure Nd where
 par:Int
 quota:Int
 used:Int
 lent:Int
 live:Bool
def Nd.enc (n:Nd):List Value:=[.int .i64 n.par,.int .i64 n.quota,.int .i64 n.used,.int .i64 n.lent,.bool n.live]
abbrev Nd.val (n:Nd):Value:=.agg #[.int .i64 n.par,.int .i64 n.quota,.int .i64 n.used,.int .i64 n.lent,.bool n.live]
def Nd.zero:Nd:=⟨0,0,0,0,false⟩
def Nd.room (n:Nd):Int:=n.quota-n.used-n.lent
def IsTree (w:World) (b:Nat) (T:Nat->Nd):Prop:=(∀ i,i<64->w.rangeAt b (i*5) (T i).enc)/\w.there b 0 320/\b<w.heap.size
theorem below_new {w w':World} (h:bc w w') (o:Obj):bc w (w'.alloc o):=h.alloc h.size o
theorem below_then {w x y:World} (h1:bc w x) (h2:bc x y):bc w y:=h1.trans (Go.Joins.below_le h2 h1.size)
theorem grown_of_below {w w':World} (h:bc w w') (r:Option Nat):w.grownBy w' r:=⟨h.os,h.tape,h.output,h.size,fun k hk _=>h.block k hk⟩
theorem grown_setCell1 (w:World) (b o:Nat) (v:Value):w.grownBy (w.setCell ⟨b,o,none⟩ v) (some b):=by
 have h:Below 0 w (w.setCell ⟨b,o,none⟩ v):=(Below.refl 0 w).setCell (Nat.zero_le _) v
 exact ⟨h.os,h.tape,h.output,h.size,fun k hk hne=>Below.heap_setCell _ _ _ _ (fun e=>hne (by rw [show k=b from e]))⟩
theorem grown_trans {a b c:World} {r:Option Nat} (h:a.grownBy b r) (k:b.grownBy c r):a.grownBy c r:=⟨k.os.trans h.os,k.tape.trans h.tape,k.output.trans h.output,Nat.le_trans h.size k.size,fun j hj hne=>(k.block j (nla hj h.size) hne).trans (h.block j hj hne)⟩
theorem grown_refl (a:World) (r:Option Nat):a.grownBy a r:=⟨rfl,rfl,rfl,Nat.le_refl _,fun _ _ _=>rfl⟩
theorem grown_setCells (b:Nat): ∀ (vs:List Value) (o:Nat) (w:World),w.grownBy (w.setCells b o vs) (some b)
 | [], _, w => grown_refl w _
 | v :: r, o, w => by
  rw [World.setCells]
  exact grown_trans (grown_setCell1 w b o v) (grown_setCells b r (o+1) _)
theorem kept_size (w:World) (b o:Nat) (vs:List Value):w.heap.size<=(w.setCells b o vs).heap.size:=(grown_setCells b vs o w).size
theorem IsTree.below {w w':World} {b:Nat} {T:Nat->Nd} (h:IsTree w b T) (hb:bc w w'):IsTree w' b T:=by
 obtain ⟨h1,h2,h3⟩:=h
 refine ⟨fun i hi j v hv=> ?_,fun j hj=> ?_,nla h3 hb.size⟩
 . rw [hb.cell (p:=⟨b,i*5+j,none⟩) h3];exact h1 i hi j v hv
 . rw [hb.cell (p:=⟨b,0+j,none⟩) h3,hb.frozen (p:=⟨b,0+j,none⟩) h3];exact h2 j hj
theorem enc_len (l:Nd):l.enc.length=5:=rfl
theorem IsTree.free {w:World} {b:Nat} {T:Nat->Nd} (h:IsTree w b T) (o n:Nat) (ho:o+n<=320):w.there b o n:=fun j hj=>by
 have:=h.2.1 (o+j) (by omega)
 rwa [Nat.zero_add] at this
def putT (T:Nat->Nd) (i:Nat) (l:Nd):Nat->Nd:=fun k=>if k=i then l else T k
theorem put_same (T:Nat->Nd) (i:Nat) (l:Nd):putT T i l i=l:=if_pos rfl
theorem put_other (T:Nat->Nd) (i:Nat) (l:Nd) (k:Nat) (h:k≠i):putT T i l k=T k:=if_neg h
theorem IsTree.cell {w:World} {b:Nat} {T:Nat->Nd} (h:IsTree w b T) (i:Nat) (hi:i<64) (c:Nat) (v:Value) (hv:(T i).enc[c]? =some v) (o:Nat) (ho:o=i*5+c):w.cell? ⟨b,o,none⟩=some v:=by rw [ho];exact h.1 i hi c v hv
theorem IsTree.one {w:World} {b:Nat} {T:Nat->Nd} (h:IsTree w b T) (i:Nat) (hi:i<64) (c:Nat) (v:Value) (l:Nd) (hl:l.enc=(T i).enc.set c v) (hc:c<5) (o:Nat) (ho:o=i*5+c):IsTree (w.setCell ⟨b,o,none⟩ v) b (putT T i l):=by
 subst ho
 obtain ⟨h1,h2,h3⟩:=h
 have e:w.setCell ⟨b,i*5+c,none⟩ v=w.setCells b (i*5+c) [v]:=by rw [World.setCells,World.setCells]
 rw [e]
 refine ⟨fun k hk=> ?_,World.there_setCells h2 _ _ _,nla h3 (kept_size w b _ _)⟩
 by_cases d:k=i
 . subst d;rw [put_same,hl]
   intro j x hj
   have hj5:j<5:=by have:=(List.getElem?_eq_some_iff.1 hj).1;simpa [enc_len] using this
   by_cases f:j=c
   . subst f
     have hx:x=v:=by
      rw [List.getElem?_set_self (by rw [enc_len];exact hj5)] at hj
      exact (sia hj).symm
     subst hx
     exact World.rangeAt_setCells_same w b (k*5+j) [x] (IsTree.free ⟨h1,h2,h3⟩ _ _ (by simp only [List.length_cons,List.length_nil];omega)) 0 x rfl
   . rw [List.getElem?_set_ne (fun q=>f q.symm)] at hj
     rw [World.cell?_setCells_out b [v] _ w _ (fun _=>by simp only [List.length_cons,List.length_nil];omega)]
     exact h1 k hk j x hj
 . rw [put_other _ _ _ _ d]
   refine World.rangeAt_setCells_apart (h1 k hk) b _ [v] (Or.inr ?_)
   simp only [enc_len,List.length_cons,List.length_nil]
   omega
theorem own1 (w:World) (o:Obj):(w.alloc o).heap[w.heap.size]? =some o:=(MapKept.heap_alloc w o).1
theorem there_block {w:World} {b:Nat} {C:Array Value} {t:TypeId} (h:w.heap[b]? =some (.cells C t (0,0))):w.there b 0 C.size:=fun j hj=>by
 rw [Nat.zero_add]
 exact ⟨by rw [Go.Joins.cell_of_block h j,Array.getElem?_eq_getElem hj];rfl,Go.Joins.unfrozen_of_block h j⟩
def Own (w W:World) (b:Nat) (T:Nat->Nd):Prop:=IsTree W b T/\bc w W/\w.heap.size<=b
theorem below_drew {n:Nat} {w W:World} (h:Below n w W):Below n w W.drew:=⟨h.os,h.tape,h.output,h.size,h.block⟩
def getN (T:Nat->Nd) (i:Int):Nd:=if 0<=i/\i<64 then T i.toNat else Nd.zero
theorem get_out (b:Nat) (i:Int) (hi:i<0\/64<=i) (w:World) :
 Calls Tryz.prog 125 #[.pointer (some ⟨b,0,none⟩),.int .i64 i] w (re (.tuple #[Nd.zero.val,.bool false]) w):=by
 rcases hi with hi | hi
 . have e1:decide (i<0)=true:=by simp [hi]
   go_enter Tryz.func125,Tryz.ntmps125
   go_wp2_with fail
   go_returns
   exact ⟨rfl,baa⟩
 . have e1:decide (i<0)=false:=by simp;omega
   have e2:decide (64<=i)=true:=by simp [hi]
   go_enter Tryz.func125,Tryz.ntmps125
   go_wp2_with fail
   go_returns
   exact ⟨rfl,baa⟩
theorem get_in (b:Nat) (T:Nat->Nd) (k:Nat) (hk:k<64) (w:World) (h:IsTree w b T) :
 Calls Tryz.prog 125 #[.pointer (some ⟨b,0,none⟩),.int .i64 k] w (re (.tuple #[(T k).val,.bool (T k).live]) w):=by
 have e1:decide ((k:Int)<0)=false:=by simp
 have e2:decide (64<=(k:Int))=false:=kh
 have k0:(0:Int)<=(k:Int):=by omega
 have k6:(k:Int)<64:=by omega
 obtain ⟨l,hl⟩: ∃ l,T k=l:=⟨_,rfl⟩
 have c0:w.cell? ⟨b,k*5,none⟩=some (.int .i64 l.par):=h.cell (k) (by omega) 0 _ (by rw [hl];rfl) _ (by omega)
 have c1:w.cell? ⟨b,k*5+1,none⟩=some (.int .i64 l.quota):=h.cell (k) (by omega) 1 _ (by rw [hl];rfl) _ (by omega)
 have c2:w.cell? ⟨b,k*5+2,none⟩=some (.int .i64 l.used):=h.cell (k) (by omega) 2 _ (by rw [hl];rfl) _ (by omega)
 have c3:w.cell? ⟨b,k*5+3,none⟩=some (.int .i64 l.lent):=h.cell (k) (by omega) 3 _ (by rw [hl];rfl) _ (by omega)
 have c4:w.cell? ⟨b,k*5+4,none⟩=some (.bool l.live):=h.cell (k) (by omega) 4 _ (by rw [hl];rfl) _ (by omega)
 have hb:=h.2.2
 rw [hl]
 clear h hl
 go_enter Tryz.func125,Tryz.ntmps125
 go_wp2_with fail
 go_region
 all_goals (go_wp2_with fail;go_returns;exact ⟨rfl,below_drew baa⟩)
theorem get_any (b:Nat) (T:Nat->Nd) (i:Int) (w:World) (h:IsTree w b T) :
 Calls Tryz.prog 125 #[.pointer (some ⟨b,0,none⟩),.int .i64 i] w (re (.tuple #[(getN T i).val,.bool (getN T i).live]) w):=by
 unfold getN
 by_cases c:0<=i/\i<64
 . obtain ⟨k,rfl⟩: ∃ k:Nat,i=k:=⟨i.toNat,by omega⟩
   simp only [if_pos c,Int.toNat_natCast]
   exact get_in b T k (by omega) w h
 . simp only [if_neg c]
   exact get_out b i (by omega) w
def Nd.ok (l:Nd):Prop:=0<=l.quota/\l.quota<=1048576/\0<=l.used/\l.used<=1048576/\0<=l.lent/\l.lent<=1048576
def OkT (T:Nat->Nd):Prop:= ∀ k,k<64->(T k).ok
theorem zero_ok:Nd.zero.ok:=by unfold Nd.ok Nd.zero;simp
theorem get_ok (T:Nat->Nd) (h:OkT T) (i:Int):(getN T i).ok:=by
 unfold getN
 by_cases c:0<=i/\i<64
 . rw [if_pos c];exact h _ (by omega)
 . rw [if_neg c];exact zero_ok
theorem room_cl (l:Nd) (h:l.ok) (w:World):Calls Tryz.prog 138 #[l.val] w (re (.int .i64 l.room) w):=by
 obtain ⟨p,q,u,n,v⟩:=l
 obtain ⟨h1,h2,h3,h4,h5,h6⟩:=h
 simp only at h1 h2 h3 h4 h5 h6
 go_enter Tryz.func138,Tryz.ntmps138
 go_wp2
 go_returns
 exact ⟨rfl,baa⟩
def mayN (T:Nat->Nd) (i n:Int):Int:=if (getN T i).live=false then 5 else if n<0 then 1 else if (getN T i).room<n then 8 else 0
theorem may_any (b:Nat) (T:Nat->Nd) (hT:OkT T) (i n:Int) (w:World) (h:IsTree w b T) :
 Calls Tryz.prog 122 (sf (.pointer (some ⟨b,0,none⟩)) i n) w (re (.int .i64 (mayN T i n)) w):=by
 have G:Hid (∀ w:World,IsTree w b T->Calls Tryz.prog 125 #[.pointer (some ⟨b,0,none⟩),.int .i64 i] w (re (.tuple #[(getN T i).val,.bool (getN T i).live]) w)):=fun w h=>get_any b T i w h
 have R:Hid (∀ w:World,Calls Tryz.prog 138 #[(getN T i).val] w (re (.int .i64 (getN T i).room) w)):=fun w=>room_cl _ (get_ok T hT i) w
 unfold mayN
 generalize getN T i=l at G R |-
 obtain ⟨p,q,u,y,v⟩:=l
 generalize (Nd.room ⟨p,q,u,y,v⟩)=z at R |-
 have HT:Hid (IsTree w b T):=h
 clear h hT
 cases v
 . go_enter Tryz.func122,Tryz.ntmps122
   go_wp2_with fail
   refine (G.out _ HT.out).mono ?_
   rintro e u1 ⟨rfl,hb1⟩
   have B1:Hid (bc w u1):=hb1
   clear hb1
   go_wp2_with fail
   go_ret
   exact ⟨rfl,below_new B1.out _⟩
 . by_cases hn:n<0
   . have e1:decide (n<0)=true:=by simp [hn]
     go_enter Tryz.func122,Tryz.ntmps122
     go_wp2_with fail
     refine (G.out _ HT.out).mono ?_
     rintro e u1 ⟨rfl,hb1⟩
     have B1:Hid (bc w u1):=hb1
     clear hb1
     go_wp2_with fail
     go_ret
     exact ⟨by simp [hn],below_new B1.out _⟩
   . have e1:decide (n<0)=false:=by simp;omega
     by_cases hr:z<n
     . have e2:decide (z<n)=true:=by simp [hr]
       go_enter Tryz.func122,Tryz.ntmps122
       go_wp2_with fail
       refine (G.out _ HT.out).mono ?_
       rintro e u1 ⟨rfl,hb1⟩
       have B1:Hid (bc w u1):=hb1
       clear hb1
       go_wp2_with fail
       refine (R.out _).mono ?_
       rintro e u2 ⟨rfl,hb2⟩
       have B2:Hid (bc w u2):=below_then (below_new B1.out _) hb2
       clear hb2
       go_wp2_with fail
       go_ret
       exact ⟨by simp [hn,hr],B2.out⟩
     . have e2:decide (z<n)=false:=by simp;omega
       go_enter Tryz.func122,Tryz.ntmps122
       go_wp2_with fail
       refine (G.out _ HT.out).mono ?_
       rintro e u1 ⟨rfl,hb1⟩
       have B1:Hid (bc w u1):=hb1
       clear hb1
       go_wp2_with fail
       refine (R.out _).mono ?_
       rintro e u2 ⟨rfl,hb2⟩
       have B2:Hid (bc w u2):=below_then (below_new B1.out _) hb2
       clear hb2
       go_wp2_with fail
       go_ret
       exact ⟨by simp [hn,hr],B2.out⟩
theorem IsTree.unfrozen {w:World} {b:Nat} {T:Nat->Nd} (h:IsTree w b T) (o:Nat) (ho:o<320):w.frozen? ⟨b,o,none⟩=false:=by
 have:=(h.2.1 o ho).2
 rwa [Nat.zero_add] at this
theorem IsTree.drew {w:World} {b:Nat} {T:Nat->Nd} (h:IsTree w b T):IsTree w.drew b T:=h
theorem live_in {T:Nat->Nd} {i:Int} (h:(getN T i).live=true): ∃ k:Nat,i=k/\k<64/\getN T i=T k:=by
 unfold getN at h |-
 by_cases c:0<=i/\i<64
 . exact ⟨i.toNat,by omega,by omega,by rw [if_pos c]⟩
 . rw [if_neg c] at h;exact absurd h (by decide)
def Nd.plus (l:Nd) (n:Int):Nd:=⟨l.par,l.quota,l.used+n,l.lent,l.live⟩
def chargeT (T:Nat->Nd) (i n:Int):Nat->Nd:=if mayN T i n=0 then putT T i.toNat ((T i.toNat).plus n) else T
theorem may_zero {T:Nat->Nd} {i n:Int} (h:mayN T i n=0):(getN T i).live=true/\0<=n/\n<=(getN T i).room:=by
 unfold mayN at h
 by_cases a:(getN T i).live=false
 . rw [if_pos a] at h;omega
 . rw [if_neg a] at h
   by_cases c:n<0
   . rw [if_pos c] at h;omega
   . rw [if_neg c] at h
     by_cases d:(getN T i).room<n
     . rw [if_pos d] at h;omega
     . exact ⟨by simpa using a,by omega,by omega⟩
theorem charge_any (b:Nat) (T:Nat->Nd) (hT:OkT T) (i n:Int) (w:World) (h:IsTree w b T) :
 Calls Tryz.prog 105 (sf (.pointer (some ⟨b,0,none⟩)) i n) w fun e w'=>e=.returned (.int .i64 (mayN T i n))/\IsTree w' b (chargeT T i n)/\w.grownBy w' (some b):=by
 have M:Hid (∀ w:World,IsTree w b T->Calls Tryz.prog 122 (sf (.pointer (some ⟨b,0,none⟩)) i n) w (re (.int .i64 (mayN T i n)) w)):=fun w h=>may_any b T hT i n w h
 have HT:Hid (IsTree w b T):=h
 by_cases c:mayN T i n=0
 . unfold chargeT
   rw [if_pos c]
   rw [c] at M |-
   obtain ⟨m1,m2,m3⟩:=may_zero c
   obtain ⟨k,rfl,hk,hg⟩:=live_in m1
   rw [hg] at m3
   have hok:=hT k hk
   obtain ⟨l,hl⟩: ∃ l,T k=l:=⟨_,rfl⟩
   rw [Int.toNat_natCast]
   rw [hl] at m3 hok |-
   have ho1:0<=l.used:=hok.2.2.1
   have ho2:l.used<=1048576:=hok.2.2.2.1
   have ho3:n<=1048576:=by
    have:=hok.2.1;have:=hok.2.2.2.2.1;unfold Nd.room at m3;omega
   have hb:=h.2.2
   clear h hok m3 hg m1 c
   have k0:(0:Int)<=(k:Int):=by omega
   have k6:(k:Int)<64:=by omega
   have HL:Hid (T k=l):=hl
   clear hl
   go_enter Tryz.func105,Tryz.ntmps105
   go_wp2_with fail
   refine (M.out _ HT.out).mono ?_
   rintro e u1 ⟨rfl,hb1⟩
   have B1:Hid (bc w u1):=hb1
   have T1:Hid (IsTree u1 b T):=HT.out.below hb1
   have lb:b<u1.heap.size:=nla hb hb1.size
   have c2:u1.cell? ⟨b,k*5+2,none⟩=some (.int .i64 l.used):=T1.out.cell k hk 2 _ (by rw [HL.out];rfl) _ rfl
   have f2:u1.frozen? ⟨b,k*5+2,none⟩=false:=T1.out.unfrozen _ (by omega)
   clear hb1
   go_wp2_with fail
   go_region
   all_goals (go_wp2_with fail;go_ret;exact ⟨rfl,(T1.out.drew.one k hk 2 _ (l.plus n) (by rw [HL.out];rfl) (by omega) _ rfl),grown_trans (grown_of_below (below_drew B1.out) _) (grown_setCell1 _ _ _ _)⟩)
 . unfold chargeT
   rw [if_neg c]
   have cb:(mayN T i n==0)=false:=by simp [c]
   generalize mayN T i n=z at M c cb |-
   clear h
   go_enter Tryz.func105,Tryz.ntmps105
   go_wp2_with fail
   refine (M.out _ HT.out).mono ?_
   rintro e u1 ⟨rfl,hb1⟩
   have B1:Hid (bc w u1):=hb1
   clear hb1
   go_wp2_with fail
   go_ret
   exact ⟨rfl,HT.out.below B1.out,grown_of_below B1.out _⟩
def Nd.new (p q:Int):Nd:=⟨p,q,0,0,true⟩
def flatT (T:Nat->Nd):Nat->List Value
 | 0 => []
 | n + 1 => flatT T n ++ (T n).enc
theorem flat_len (T:Nat->Nd): ∀ n,(flatT T n).length=n*5
 | 0 => rfl
 | n + 1 => by rw [flatT, List.length_append, flat_len T n, enc_len]; omega
theorem flat_get (T:Nat->Nd): ∀ n q r,q<n->r<5->(flatT T n)[q*5+r]? =(T q).enc[r]?
 | 0, q, r, h, _ => absurd h (Nat.not_lt_zero _)
 | n + 1, q, r, h, hr => by
  rw [flatT]
  by_cases c:q=n
  . subst c
    rw [List.getElem?_append_right (by rw [flat_len];omega),flat_len]
    congr 1
    omega
  . rw [List.getElem?_append_left (by rw [flat_len];omega)]
    exact flat_get T n q r (by omega) hr
def zT:Nat->Nd:=fun _=>Nd.zero
set_option maxRecDepth 10000 in
theorem zeroT: ∃ Zs:Array Value,(∀ W:World,(zeroValue 200).run Tryz.prog W=.ok (.agg Zs) W)/\Zs.size=320/\ ∀ q r,q<64->r<5->Zs[q*5+r]? =Nd.zero.enc[r]? :=
 ⟨(flatT zT 64).toArray,fun W=>by kernel_rfl,by rw [List.size_toArray,flat_len],fun q r h1 h2=>by rw [List.getElem?_toArray];exact flat_get zT 64 q r h1 h2⟩
theorem IsTree.madeT (w:World) (Zs:Array Value) (T:Nat->Nd) (hs:Zs.size=320) (hz: ∀ q r,q<64->r<5->Zs[q*5+r]? =(T q).enc[r]?):IsTree (w.alloc (.cells Zs 200)) w.heap.size T:=by
 refine ⟨fun i hi j v hv=> ?_,?_,by simp⟩
 . have hj:j<5:=(List.getElem?_eq_some_iff.1 hv).1
   exact (Go.Joins.cell_of_block (own1 w _) _).trans ((hz i j hi hj).trans hv)
 . have:=there_block (own1 w (.cells Zs 200))
   rwa [hs] at this
def rootT (q:Int):Nat->Nd:=putT zT 0 ⟨-1,q,0,0,true⟩
theorem new_ok (q:Int) (h0:0<=q) (h1:q<=1048576) (w:World) :
 Calls Tryz.prog 45 #[.int .i64 q] w fun e w'=>e=.returned (.tuple #[.pointer (some ⟨w.heap.size,0,none⟩),.int .i64 0])/\Own w w' w.heap.size (rootT q):=by
 obtain ⟨Zs,hz,hs,hzz⟩:=zeroT
 have e1:decide (q<0)=false:=kh
 have e2:decide (1048576<q)=false:=kh
 have HZ:Hid (∀ q r,q<64->r<5->Zs[q*5+r]? =Nd.zero.enc[r]?):=hzz
 clear hzz
 go_enter Tryz.func45,Tryz.ntmps45
 go_wp2_with fail
 go_returns
 refine ⟨rfl,IsTree.madeT w _ (rootT q) (by simp [hs]) ?_,baa,Nat.le_refl _⟩
 intro j r hj hr
 by_cases c:j=0
 . subst c
   rw [show rootT q 0=⟨-1,q,0,0,true⟩ from put_same _ _ _]
   rcases (show r=0\/r=1\/r=2\/r=3\/r=4 by omega) with rfl | rfl | rfl | rfl | rfl <;> simp [Array.getElem?_setIfInBounds,hs,Nd.enc]
 . rw [show rootT q j=Nd.zero from put_other _ _ _ _ c,<- HZ.out j r hj hr]
   have n0: ¬ (0=j*5+r):=by omega
   have n1: ¬ (1=j*5+r):=by omega
   have n2: ¬ (2=j*5+r):=by omega
   have n3: ¬ (3=j*5+r):=by omega
   have n4: ¬ (4=j*5+r):=by omega
   simp only [Array.getElem?_setIfInBounds,n0,n1,n2,n3,n4,if_false]
def sm (f:Nat->Int):Nat->Int
 | 0 => 0
 | n + 1 => sm f n + f n
theorem sm_zero {f:Nat->Int}: ∀ n,(∀ j,j<n->f j=0)->sm f n=0
 | 0, _ => rfl
 | n + 1, h => by rw [sm, sm_zero n (fun j hj => h j (by omega)), h n (by omega)]; rfl
def part (l:Nd) (i:Int):Int:=if (l.live && (l.par==i))=true then l.quota else 0
def lentOf (T:Nat->Nd) (i:Int):Int:=sm (fun j=>part (T j) i) 64
theorem part_dead {l:Nd} {i:Int} (h1:l.live=false):part l i=0:=by unfold part;rw [if_neg (by simp [h1])]
theorem part_no {l:Nd} {i:Int} (h2:l.par≠i):part l i=0:=by unfold part;rw [if_neg (by simp [h2])]
structure Good (T:Nat->Nd) (root:Int):Prop where
 live0:(T 0).live=true
 par0:(T 0).par= -1
 quota0:(T 0).quota=root
 rb0:0<=root
 rb1:root<=1048576
 nn: ∀ k,k<64->0<=(T k).quota/\0<=(T k).used/\0<=(T k).lent/\(T k).used+(T k).lent<=(T k).quota/\(T k).quota<=root
 dead: ∀ k,k<64->(T k).live=false->T k=Nd.zero
 par: ∀ k,k<64->k≠0->(T k).live=true-> ∃ p:Nat,(T k).par=p/\p<64/\(T p).live=true
 lent: ∀ k,k<64->(T k).lent=lentOf T k
 rank: ∃ d:Nat->Nat,∀ k,k<64->k≠0->(T k).live=true->d (T k).par.toNat<d k
theorem Good.okT {T:Nat->Nd} {root:Int} (g:Good T root):OkT T:=fun k hk=>by
 have:=g.nn k hk
 have:=g.rb1
 unfold Nd.ok
 omega
theorem root_good (q:Int) (h0:0<=q) (h1:q<=1048576):Good (rootT q) q:=by
 have o: ∀ k,k≠0->rootT q k=Nd.zero:=fun k hk=>put_other _ _ _ _ hk
 have z:rootT q 0=⟨-1,q,0,0,true⟩:=put_same _ _ _
 refine ⟨by rw [z],by rw [z],by rw [z],h0,h1,?_,?_,?_,?_,⟨fun _=>0,?_⟩⟩
 . intro k hk
   by_cases c:k=0
   . subst c;rw [z];simp;try omega
   . rw [o k c];simp [Nd.zero];try omega
 . intro k hk hl
   by_cases c:k=0
   . subst c;rw [z] at hl;simp at hl
   . exact o k c
 . intro k hk c hl;rw [o k c] at hl;simp [Nd.zero] at hl
 . intro k hk
   have:lentOf (rootT q) k=0:=sm_zero 64 (fun j hj=>by
    by_cases c:j=0
    . subst c;rw [z];exact part_no (by simp;try omega)
    . rw [o j c];exact part_dead rfl)
   rw [this]
   by_cases c:k=0
   . subst c;rw [z]
   . rw [o k c];rfl
 . intro k hk c hl;rw [o k c] at hl;simp [Nd.zero] at hl
end Go.Proofs.YtgbdnnkkcpkhdaaGreatDoor.Qu
namespace Go.Proofs.YtgbdnnkkcpkhdaaGreatDoor.Li
theorem own1 (w:World) (o:Obj):(w.alloc o).heap[w.heap.size]? =some o:=(MapKept.heap_alloc w o).1
theorem blk_lt {w:World} {b:Nat} {o:Obj} (h:w.heap[b]? =some o):b<w.heap.size:=(Array.getElem?_eq_some_iff.1 h).1
abbrev Blk (w:World) (b:Nat) (C:List Value) (t:TypeId):Prop:=w.heap[b]? =some (.cells C.toArray t (0,0))
theorem wpList_app {P:Program} {ops:Array Oper} {rest:List Oper} {o:Oper} {a:Act} {w:World} {Q:Exit->Act->World->Prop} (hgd:o.guard=none) (s x:Operand) (t:TypeId)
 (ho:o.op=.call { callee:=.builtin .append,args:= #[s,x],argTypes:= #[t,t] }) (vs vx:Value) (hs:a.eval s=vs) (hx:a.eval x=vx) (v':Value) (w1:World)
 (hr:(Builtin.append_ #[t,t] o.type #[vs,vx]).run P w=.ok v' w1) (h:wpList P ops Q rest (a.put o.dst v') w1):wpList P ops Q (o::rest) a w:=by
 refine wpList_plain hgd fun K hK=> ?_
 unfold Oper.wp execOp
 simp only [ho,resolve,invoke,builtin,Sem.run_bind,Sem.run_pure,Result.andThen_ok,List.map_toArray,List.map_cons,List.map_nil,hs,hx,hr]
 exact hK _ _ h
theorem row_keep {w w':World} {base n e s:Nat} {v:Value} {xs:List Value} (h:w.ownsRow base e s v n xs) (hb: ∀ g,v.ownBlock=some g->w'.heap[g]? =w.heap[g]?):w'.ownsRow base e s v n xs:=by
 obtain ⟨h1,h2⟩:=h
 refine ⟨h1,?_⟩
 rcases h2 with h2 | ⟨g',cap',cur,e1,e2,e3,e4⟩
 . exact Or.inl h2
 . exact Or.inr ⟨g',cap',cur,e1,e2,(hb g' (by rw [e1];rfl)).trans e3,e4⟩
theorem row_lt {w:World} {base n e s:Nat} {v:Value} {xs:List Value} (h:w.ownsRow base e s v n xs): ∀ g,v.ownBlock=some g->base<=g/\g<w.heap.size:=by
 obtain ⟨h1,h2⟩:=h
 rcases h2 with ⟨rfl,_⟩ | ⟨g',cap',cur,rfl,e2,e3,e4⟩
 . intro j e;cases e
 . intro j e;cases e;exact ⟨e2,blk_lt e3⟩
theorem row_weak {w:World} {base base' n e s:Nat} {v:Value} {xs:List Value} (h:w.ownsRow base e s v n xs) (hb:base'<=base):w.ownsRow base' e s v n xs:=by
 obtain ⟨h1,h2⟩:=h
 rcases h2 with h2 | ⟨g',cap',cur,e1,e2,e3,e4⟩
 . exact ⟨h1,Or.inl h2⟩
 . exact ⟨h1,Or.inr ⟨g',cap',cur,e1,by omega,e3,e4⟩⟩
theorem row_below {w W:World} {base n e s:Nat} {v:Value} {xs:List Value} (h:w.ownsRow base e s v n xs) (hb:bc w W):W.ownsRow base e s v n xs:=row_keep h (fun g e=>hb.block g (row_lt h g e).2)
variable {α :Type}
def LL (k:Nat) (enc: α ->List Value) (w:World) (lo:Nat) (v:Value) (L:List α):Prop :=
 (v=.slice none 0 0/\L=[])\/ ∃ g o c,v=.slice (some ⟨g,o,none⟩) L.length c/\L.length<=c/\lo<=g/\g<w.heap.size/\ ∀ i (hi:i<L.length),∀ j,j<k->w.cell? ⟨g,o+i*k+j,none⟩=(enc L[i])[j]?
section
variable {k:Nat} {enc: α ->List Value}
theorem LL.high {w W:World} {lo:Nat} {v:Value} {L:List α} (H:LL k enc w lo v L) (hs:w.heap.size<=W.heap.size) (hb: ∀ j,lo<=j->j<w.heap.size->W.heap[j]? =w.heap[j]?):LL k enc W lo v L:=by
 rcases H with h | ⟨g,o,c,hv,hc,l0,lg,h⟩
 . exact Or.inl h
 . refine Or.inr ⟨g,o,c,hv,hc,l0,nla lg hs,fun i hi j hj=> ?_⟩
   rw [World.cell?_of_block (w:=w) (a:=⟨g,o+i*k+j,none⟩) (hb g l0 lg)];exact h i hi j hj
theorem LL.below {w W:World} {lo:Nat} {v:Value} {L:List α} (H:LL k enc w lo v L) (hb:bc w W):LL k enc W lo v L:=H.high hb.size (fun j _ hj=>hb.block j hj)
theorem LL.low {w:World} {lo lo':Nat} {v:Value} {L:List α} (H:LL k enc w lo v L) (h:lo'<=lo):LL k enc w lo' v L:=by
 rcases H with h' | ⟨g,o,c,hv,hc,l0,r⟩
 . exact Or.inl h'
 . exact Or.inr ⟨g,o,c,hv,hc,Nat.le_trans h l0,r⟩
theorem LL.form {w:World} {lo:Nat} {v:Value} {L:List α} (H:LL k enc w lo v L): ∃ p c,v=.slice p L.length c/\L.length<=c/\(p=none->L=[]/\c=0)/\ ∀ i (hi:i<L.length),∃ g o,p=some ⟨g,o,none⟩/\lo<=g/\g<w.heap.size/\ ∀ j,j<k->w.cell? ⟨g,o+i*k+j,none⟩=(enc L[i])[j]? :=by
 rcases H with ⟨h1,h2⟩ | ⟨g,o,c,hv,hc,l0,lg,h⟩
 . subst h2
   exact ⟨none,0,h1,Nat.le_refl _,fun _=>⟨rfl,rfl⟩,fun i hi=>absurd hi (Nat.not_lt_zero _)⟩
 . exact ⟨_,c,hv,hc,(fun h=>by cases h),fun i hi=>⟨g,o,rfl,l0,lg,h i hi⟩⟩
abbrev OL (T:TypeId) (k:Nat) (enc: α ->List Value) (w:World) (base:Nat) (v:Value) (L:List α):Prop:=w.ownsRow base T k v L.length (L.flatMap enc)
theorem flat_len {enc: α ->List Value} {k:Nat} (hk: ∀ x,(enc x).length=k): ∀ L:List α,(L.flatMap enc).length=L.length*k
 | [] => by simp
 | x :: L => by rw [List.flatMap_cons, List.length_append, flat_len hk L, hk, List.length_cons, Nat.add_mul, Nat.one_mul, Nat.add_comm]
theorem flat_get {enc: α ->List Value} {k:Nat} (hk: ∀ x,(enc x).length=k): ∀ (L:List α) (i:Nat) (hi:i<L.length) (j:Nat),j<k->(L.flatMap enc)[i*k+j]? =(enc L[i])[j]?
 | [], i, hi, _, _ => absurd hi (Nat.not_lt_zero _)
 | x :: L, 0, hi, j, hj => by
  rw [List.flatMap_cons,Nat.zero_mul,Nat.zero_add,List.getElem?_append_left (by rw [hk];exact hj)];rfl
 | x :: L, i + 1, hi, j, hj => by
  rw [List.flatMap_cons,List.getElem?_append_right (by rw [hk,Nat.add_mul,Nat.one_mul];omega),hk]
  have:(i+1)*k+j-k=i*k+j:=by rw [Nat.add_mul,Nat.one_mul];omega
  rw [this,flat_get hk L i (by simpa using hi) j hj];rfl
theorem ol_ll {T:TypeId} {k:Nat} {enc: α ->List Value} (hk: ∀ x,(enc x).length=k) {w:World} {base:Nat} {v:Value} {L:List α} (O:OL T k enc w base v L):LL k enc w base v L:=by
 have hc:=fun g (hg:v.ownBlock=some g)=>World.ownsRow.cells (g:=g) O hg
 obtain ⟨hl',⟨hv,h0⟩ | ⟨g,cap,cur,hv,hb,hblk,hcap,_⟩⟩:=O
 . exact Or.inl ⟨hv,List.eq_nil_of_length_eq_zero h0⟩
 . refine Or.inr ⟨g,0,cap,hv,hcap,hb,blk_lt hblk,fun i hi j hj=> ?_⟩
   have hg:=flat_get hk L i hi j hj
   have hlt:j<(enc L[i]).length:=by rw [hk];exact hj
   rw [List.getElem?_eq_getElem hlt] at hg |-
   have:=hc g (by rw [hv];rfl) (i*k+j) _ hg
   rw [Addr.add_mid,Nat.zero_add] at this
   rw [Nat.zero_add];exact this
theorem ol_made {T:TypeId} {k:Nat} {enc: α ->List Value} (w:World) (base:Nat) (hb:base<=w.heap.size):OL T k enc (w.alloc (.cells #[] T)) base (.slice (some ⟨w.heap.size,0,none⟩) 0 0) []:=⟨by simp,Or.inr ⟨w.heap.size,0,#[],rfl,hb,own1 w _,by simp,by simp,by simp,by simp⟩⟩
theorem ol_none (T:TypeId) (k:Nat) (enc: α ->List Value) (w:World) (base:Nat):OL T k enc w base (.slice none 0 0) []:=World.ownsRow_nil (w:=w) (base:=base) (e:=T) (size:=k)
theorem ol_one {T:TypeId} {k:Nat} {enc: α ->List Value} (hk: ∀ x,(enc x).length=k) (w:World) (base:Nat) (hb:base<=w.heap.size) (x: α):OL T k enc (w.alloc (.cells (enc x).toArray T)) base (.slice (some ⟨w.heap.size,0,none⟩) 1 1) [x] :=
 ⟨by simp [hk],Or.inr ⟨w.heap.size,1,(enc x).toArray,rfl,hb,own1 w _,Nat.le_refl _,by unfold maxLen;omega,by simp [hk],by simp [<- hk x]⟩⟩
theorem app_row (hk: ∀ x,(enc x).length=k) (h1: ∀ x,∀ u∈enc x,u.oneCell'=true) (k0:0<k) {T S:TypeId} {z:Value} {bytes:Nat} (hS:Tryz.prog.underlying S=some (.slice T)) (hI: ∃ i,Tryz.prog.info? T=some i/\i.zero=some z/\i.size=k/\i.bytes=bytes) (hz:z.cells.size=k) (hb8:bytes<=100)
 (base:Nat) (v:Value) (L:List α) (x: α) (hL:L.length<=1048576) (w:World) (h:OL T k enc w base v L) (hb:base<=w.heap.size) :
 ∃ v' W2,(Builtin.append_ #[S,S] S #[v,.slice (some ⟨w.heap.size,0,none⟩) 1 1]).run Tryz.prog (w.alloc (.cells (enc x).toArray T))=.ok v' W2/\OL T k enc W2 base v' (L++[x])/\(w.alloc (.cells (enc x).toArray T)).grownBy W2 v.ownBlock/\(v'.ownBlock=v.ownBlock\/v'.ownBlock=some (w.heap.size+1)):=by
 obtain ⟨i0,hi,hz0,hz1,hz2⟩:=hI
 have O0:OL T k enc (w.alloc (.cells (enc x).toArray T)) base v L:=row_below h baa
 obtain ⟨v',W2,r,ho,hg,_,hat⟩:=run_append_own_at (P:=Tryz.prog) (w.alloc (.cells (enc x).toArray T)) base S S T i0 z k bytes hS hi hz0 hz1 hz2 hz k0 v L.length (L.flatMap enc) O0
  ⟨w.heap.size,0,none⟩ 1 1 (enc x) (by rw [hk,Nat.one_mul]) (fun j u hu=>by
   rw [Addr.add_mid,Nat.zero_add,Go.Joins.cell_of_block (own1 w _)]
   simpa using hu) (h1 x) (by unfold maxLen;omega) (by
    have:(L.length+1)*bytes<=1048577*100:=Nat.mul_le_mul (by omega) hb8
    omega) ke
 rw [World.size_alloc] at hat
 refine ⟨v',W2,r,?_,hg,hat⟩
 show W2.ownsRow base T k v' (L++[x]).length ((L++[x]).flatMap enc)
 rw [List.length_append,List.flatMap_append,List.flatMap_cons,List.flatMap_nil,List.append_nil];exact ho
theorem app_all (hk: ∀ x,(enc x).length=k) (h1: ∀ x,∀ u∈enc x,u.oneCell'=true) (k0:0<k) {T S:TypeId} {z:Value} {bytes:Nat} (hS:Tryz.prog.underlying S=some (.slice T)) (hI: ∃ i,Tryz.prog.info? T=some i/\i.zero=some z/\i.size=k/\i.bytes=bytes) (hz:z.cells.size=k) (hb8:bytes<=100)
 (base:Nat) (v:Value) (L M:List α) (g o m c:Nat) (hm:m=M.length) (hL:L.length+M.length<=1048576) (w:World) (h:OL T k enc w base v L) (hM: ∀ i (hi:i<M.length),∀ j,j<k->w.cell? ⟨g,o+i*k+j,none⟩=(enc M[i])[j]?) (hb:base<=w.heap.size) :
 ∃ v' W2,(Builtin.append_ #[S,S] S #[v,.slice (some ⟨g,o,none⟩) m c]).run Tryz.prog w=.ok v' W2/\OL T k enc W2 base v' (L++M)/\w.grownBy W2 v.ownBlock/\(v'.ownBlock=v.ownBlock\/v'.ownBlock=some w.heap.size):=by
 subst hm
 obtain ⟨i0,hi,hz0,hz1,hz2⟩:=hI
 obtain ⟨v',W2,r,ho,hg,_,hat⟩:=run_append_own_at (P:=Tryz.prog) w base S S T i0 z k bytes hS hi hz0 hz1 hz2 hz k0 v L.length (L.flatMap enc) h
  ⟨g,o,none⟩ M.length c (M.flatMap enc) (flat_len hk M) (fun j u hu=>by
   have jl:j<M.length*k:=by rw [<- flat_len hk M];exact (List.getElem?_eq_some_iff.1 hu).1
   have i1:j / k<M.length:=Nat.div_lt_of_lt_mul (by rw [Nat.mul_comm];exact jl)
   have e:j=j / k*k+j % k:=by rw [Nat.mul_comm];exact (Nat.div_add_mod j k).symm
   have jk:j % k<k:=Nat.mod_lt _ k0
   have q:=flat_get hk M (j / k) i1 (j % k) jk
   rw [<- e,hu] at q
   have c:=hM (j / k) i1 (j % k) jk
   rw [Nat.add_assoc,<- e,<- q] at c
   rw [Addr.add_mid];exact c) (fun u hu=>by
   obtain ⟨x,_,hx⟩:=List.mem_flatMap.1 hu
   exact h1 x u hx) (by unfold maxLen;omega) (by
    have:(L.length+M.length)*bytes<=1048576*100:=Nat.mul_le_mul hL hb8
    omega) hb
 refine ⟨v',W2,r,?_,hg,hat⟩
 show W2.ownsRow base T k v' (L++M).length ((L++M).flatMap enc)
 rw [List.length_append,List.flatMap_append];exact ho
def eR (x:Int × Int):List Value:=[.int .i64 x.1,.int .i64 x.2]
theorem eR_len (x:Int × Int):(eR x).length=2:=rfl
abbrev RL (w:World) (lo:Nat) (v:Value) (L:List (Int × Int)):Prop:=LL 2 eR w lo v L
abbrev OR (w:World) (base:Nat) (v:Value) (L:List (Int × Int)):Prop:=OL 43 2 eR w base v L
def eI (x:Int):List Value:=[.int .i64 x]
theorem eI_len (x:Int):(eI x).length=1:=rfl
theorem eI_one (x:Int): ∀ u∈eI x,u.oneCell'=true:=by intro u hu;simp [eI] at hu;subst hu;rfl
theorem infoI: ∃ i,Tryz.prog.info? 3=some i/\i.zero=some (.int .i64 0)/\i.size=1/\i.bytes=8:=⟨_,rfl,by kernel_rfl,by kernel_rfl,by kernel_rfl⟩
abbrev IL (w:World) (lo:Nat) (v:Value) (L:List Int):Prop:=LL 1 eI w lo v L
abbrev OI (w:World) (base:Nat) (v:Value) (L:List Int):Prop:=OL 3 1 eI w base v L
end
end Go.Proofs.YtgbdnnkkcpkhdaaGreatDoor.Li
