import Derived.Lib.SmallJoins
import Derived.ProofKit
import Derived.Deep.RegionHeld3
namespace Go.Proofs.YtgbdnnkkcpkhdaaGreatDoor
open Go.ChangeShapes Go.WideShapes Go.ChangeAt Go.RowKit
section
variable {P:Program} {ops:Array Oper} {Q:Exit->Act->World->Prop} {md:Region.Mode} {S:World->Prop} {fuel:Nat} {listed:Array Bool} {a:Act} {w:World}
theorem tk (i d:Nat) (v:Value) {o1:Op} {o2 o3 o4} (hi:ops[i]? =some ⟨some d,o1,o2,o3,o4,none⟩) (hy:YieldsIf P ops S ⟨some d,o1,o2,o3,o4,none⟩ v a) (h:wpAnyH P md ops Q S fuel (listed.setIfInBounds i true) (a.put (some d) v) w) (hs:Region.noSelect ops=true:=by kernel_rfl) (hf:Region.free md ops listed i=true:=by kernel_rfl) (hr:(Region.ready md ops listed).contains i=true:=by kernel_rfl) (hQ: ∀ c a w,Q (.panic c) (a.put (some d) v) w->Q (.panic c) a w:=by exact fun _ _ _ h=>h) (hS:S w:=by assumption):wpAnyH P md ops Q S (fuel+1) listed a w:=wpAnyH_take (oi:=⟨some d,o1,o2,o3,o4,none⟩) hi hs hf hr hQ hy hS h
theorem tk0 (i:Nat) (v:Value) {oi:Oper} (hi:ops[i]? =some oi) (hy:YieldsIf P ops S oi v a) (h:wpAnyH P md ops Q S fuel (listed.setIfInBounds i true) (a.put oi.dst v) w) (hs:Region.noSelect ops=true:=by kernel_rfl) (hf:Region.free md ops listed i=true:=by kernel_rfl) (hr:(Region.ready md ops listed).contains i=true:=by kernel_rfl) (hQ: ∀ c a w,Q (.panic c) (a.put oi.dst v) w->Q (.panic c) a w:=by exact fun _ _ _ h=>h) (hS:S w:=by assumption):wpAnyH P md ops Q S (fuel+1) listed a w:=wpAnyH_take hi hs hf hr hQ hy hS h
end
theorem z1 {α :Type} {l:List α} {i:Nat} {a: α}:l.toArray.setIfInBounds i a=(l.set i a).toArray:=by simp
theorem z2 {α :Type} {x: α} {xs:List α} {a: α}:(x::xs).set 0 a=a::xs:=rfl
theorem z3 {α :Type} {x: α} {xs:List α} {n:Nat} {a: α}:(x::xs).set (n+1) a=x::xs.set n a:=rfl
section
variable {P:Program} {ops:Array Oper} {Q:Exit->Act->World->Prop} {md:Region.Mode} {S:World->Prop} {fuel:Nat} {listed:Array Bool} {a:Act} {w:World}
theorem tla (i d:Nat) (v:Value) {o1:Op} {o2 o3 o4} (hi:ops[i]? =some ⟨some d,o1,o2,o3,o4,none⟩) (h1: ∀ w,S w->(execOp a.eval ⟨some d,o1,o2,o3,o4,none⟩).run P w=.ok (.value v) w) {a':Act} (h:wpAnyH P md ops Q S fuel (listed.setIfInBounds i true) a' w) (ha:a.put (some d) v=a':=by (try simp only [Act.put,z1,z2,z3]) <;> exact rfl) (hw:Region.wanted ⟨some d,o1,o2,o3,o4,none⟩ (yielded ops a.tmps)=true:=by rfl) (hs:Region.noSelect ops=true:=by kernel_rfl) (hf:Region.free md ops listed i=true:=by kernel_rfl) (hr:(Region.ready md ops listed).contains i=true:=by kernel_rfl) (hQ: ∀ c a w,Q (.panic c) (a.put (some d) v) w->Q (.panic c) a w:=by exact fun _ _ _ h=>h) (hS:S w:=by assumption):wpAnyH P md ops Q S (fuel+1) listed a w:=wpAnyH_take (oi:=⟨some d,o1,o2,o3,o4,none⟩) hi hs hf hr hQ (Or.inl ⟨hw,h1⟩) hS (by rw [ha];exact h)
theorem tma (i d:Nat) {v:Value} {o1:Op} {o2 o3 o4} (hi:ops[i]? =some ⟨some d,o1,o2,o3,o4,none⟩) {a':Act} (h:wpAnyH P md ops Q S fuel (listed.setIfInBounds i true) a' w) (h1: ∀ w,S w->(execOp a.eval ⟨some d,o1,o2,o3,o4,none⟩).run P w=.ok (.value v) w:=by intro w hSw;(try dsimp only at hSw);go_simp;(try with_reducible rfl)) (ha:a.put (some d) v=a':=by (try simp only [Act.put,z1,z2,z3]) <;> exact rfl) (hw:Region.wanted ⟨some d,o1,o2,o3,o4,none⟩ (yielded ops a.tmps)=true:=by rfl) (hs:Region.noSelect ops=true:=by kernel_rfl) (hf:Region.free md ops listed i=true:=by kernel_rfl) (hr:(Region.ready md ops listed).contains i=true:=by kernel_rfl) (hQ: ∀ c a w,Q (.panic c) (a.put (some d) v) w->Q (.panic c) a w:=by exact fun _ _ _ h=>h) (hS:S w:=by assumption):wpAnyH P md ops Q S (fuel+1) listed a w:=tla i d v hi h1 h ha hw hs hf hr hQ hS
end
section
variable {P:Program} {ops:Array Oper} {Q:Exit->Act->World->Prop} {md:Region.Mode} {S:World->Prop} {fuel id:Nat} {listed:Array Bool} {a:Act} {w:World}
theorem rda (i:Nat) (o:Oper) (ho:ops[i]? =some o) (h: ∀ K':Act->World->Prop,Shut (∀ a w,S w->(S w->wpAnyH P md ops Q S fuel (listed.setIfInBounds i true) a w)->K' a w)->if Region.wanted o (yielded ops a.tmps)=true then Oper.wp P o a w K' Q else K' (a.put o.dst undef) w) (hr:Region.ready md ops listed=[i]:=by kernel_rfl):wpAnyH P md ops Q S (fuel+1) listed a w:=wpAnyH_ready hr (by simp) (AllReadyH.cons ho h AllReadyH.nil)
theorem hda (S:World->Prop) (hS:S w.drew) (h:S w.drew->wpAnyH P .any ops (NoPanic Q) S ops.size (Array.replicate ops.size false) a w.drew) (hm:P.follows .mixedOrders=true:=by kernel_rfl):(Code.region id ops true).wp P Q a w:=wp_region_noPanic (wp_region_held_drew hm hS h)
end
theorem baa {w:World} {o:Obj}:Below w.heap.size w (w.alloc o):=Go.Joins.below_alloc1 _ _
theorem nla {a b c:Nat} (h:a<b) (k:b<=c):a<c:=Nat.lt_of_lt_of_le h k
theorem sia {A:Type} {a b:A} (h:some a=some b):a=b:=Option.some.inj h
theorem bca {p:Prop} (h: ¬ p->False):p:=Classical.byContradiction h
theorem zaa {α :Type} {l:List α} {i:Nat} {a: α}:l.toArray.setIfInBounds i a=(l.set i a).toArray:=by simp
theorem zba {α :Type} {x: α} {xs:List α} {a: α}:(x::xs).set 0 a=a::xs:=rfl
theorem zca {α :Type} {x: α} {xs:List α} {n:Nat} {a: α}:(x::xs).set (n+1) a=x::xs.set n a:=rfl
abbrev sc (x0 x1 x2 x3:Int):Array Value:=#[.int .i64 x0,.int .i64 x1,.int .i64 x2,.int .i64 x3]
abbrev sd (x0 x1 x2 x3 x4 x5 x6 x7:Bool) (x8:Int):Array Value:=#[.bool x0,.bool x1,.bool x2,.bool x3,.bool x4,.bool x5,.bool x6,.bool x7,.int .i64 x8]
abbrev sf (x0:Value) (x1 x2:Int):Array Value:=#[x0,.int .i64 x1,.int .i64 x2]
abbrev sh (x0 x1 x2 x3 x4 x5 x6 x7:Bool) (x8:Int):List Value:=[.bool x0,.bool x1,.bool x2,.bool x3,.bool x4,.bool x5,.bool x6,.bool x7,.int .i64 x8]
abbrev si (x0 x1 x2 x3:Int) (x4:Value):Array Value:=#[.int .i64 x0,.int .i64 x1,.int .i64 x2,.int .i64 x3,x4]
abbrev sj (x0 x1 x2 x3:Int) (x4:Value):List Value:=[.int .i64 x0,.int .i64 x1,.int .i64 x2,.int .i64 x3,x4]
abbrev sk (x0 x1 x2:Bool):List Value:=[.bool x0,.bool x1,.bool x2]
abbrev sn (x0 x1 x2:Bool):Array Value:=#[.bool x0,.bool x1,.bool x2]
abbrev sq (x0 x1:Int) (x2 x3 x4:Bool) (x5:Int):List Value:=[.int .i64 x0,.int .i64 x1,.bool x2,.bool x3,.bool x4,.int .i64 x5]
abbrev sr (x0 x1:Int) (x2 x3 x4:Bool) (x5:Int):Array Value:=#[.int .i64 x0,.int .i64 x1,.bool x2,.bool x3,.bool x4,.int .i64 x5]
abbrev sx (x0:Bool) (x1 x2 x3:Int) (x4 x5 x6 x7 x8:Bool):List Value:=[.bool x0,.int .i64 x1,.int .i64 x2,.int .i64 x3,.bool x4,.bool x5,.bool x6,.bool x7,.bool x8]
abbrev sy (x0:Bool) (x1 x2 x3:Int) (x4 x5 x6 x7 x8:Bool):Array Value:=#[.bool x0,.int .i64 x1,.int .i64 x2,.int .i64 x3,.bool x4,.bool x5,.bool x6,.bool x7,.bool x8]
abbrev sa1 (x0:Bool) (x1 x2 x3:Int) (x4 x5 x6 x7 x8 x9:Bool) (x10 x11 x12:Int) (x13 x14 x15 x16 x17:Bool):List Value:=[.bool x0,.int .i64 x1,.int .i64 x2,.int .i64 x3,.bool x4,.bool x5,.bool x6,.bool x7,.bool x8,.bool x9,.int .i64 x10,.int .i64 x11,.int .i64 x12,.bool x13,.bool x14,.bool x15,.bool x16,.bool x17]
abbrev sb1 (x0 x1:Int) (x2 x3 x4 x5 x6 x7 x8 x9:Bool) (x10 x11:Int):Array Value:=#[.int .u64 x0,.int .u64 x1,.bool x2,.bool x3,.bool x4,.bool x5,.bool x6,.bool x7,.bool x8,.bool x9,.int .i64 x10,.int .i64 x11]
abbrev sc1 (x0 x1:Int) (x2 x3 x4 x5 x6 x7 x8 x9:Bool) (x10 x11:Int):List Value:=[.int .u64 x0,.int .u64 x1,.bool x2,.bool x3,.bool x4,.bool x5,.bool x6,.bool x7,.bool x8,.bool x9,.int .i64 x10,.int .i64 x11]
abbrev sd1 (x0:Int) (x1 x2 x3 x4 x5 x6:Bool):Array Value:=#[.int .i64 x0,.bool x1,.bool x2,.bool x3,.bool x4,.bool x5,.bool x6]
abbrev se1 (x0:Int) (x1 x2 x3 x4 x5 x6:Bool):List Value:=[.int .i64 x0,.bool x1,.bool x2,.bool x3,.bool x4,.bool x5,.bool x6]
abbrev sf1 (x0 x1 x2:Int):Array Value:=#[.int .i64 x0,.int .u64 x1,.int .i64 x2]
abbrev sg1:Array Value:=#[.bool false,.bool false,.bool false,.bool false,.bool false,.bool false,.bool false,.bool false,.int .i64 0]
abbrev sh1:List Value:=[.bool false,.bool false,.bool false,.bool false,.bool false,.bool false,.bool false,.bool false,.int .i64 0]
abbrev si1:Array Value:=#[.bool false,.bool false,.bool false]
abbrev sj1:List Value:=[.bool false,.bool false,.bool false]
abbrev sk1:List Value:=[.int .i64 0,.int .i64 0,.bool false,.bool false,.bool false,.int .i64 0]
abbrev sl1:Array Value:=#[.bool false,.int .i64 0,.int .i64 0,.int .i64 0,.bool false,.bool false,.bool false,.bool false,.bool false]
abbrev sm1:List Value:=[.bool false,.int .i64 0,.int .i64 0,.int .i64 0,.bool false,.bool false,.bool false,.bool false,.bool false]
abbrev sn1:Array Value:=#[.int .u64 0,.int .u64 0,.bool false,.bool false,.bool false,.bool false,.bool false,.bool false,.bool false,.bool false,.int .i64 0,.int .i64 0]
abbrev so1:Array Value:=#[.int .i64 0,.bool false,.bool false,.bool false,.bool false,.bool false,.bool false]
abbrev sp1:List Value:=[.int .i64 0,.bool false,.bool false,.bool false,.bool false,.bool false,.bool false]
theorem ka {p:Prop} (h:p:=by kernel_rfl):p:=h
theorem ke {p:Prop} (h:p:=by rw [World.size_alloc];omega):p:=h
theorem kg {p:Prop} (h:p:=by rw [IntKind.wrap_u64];omega):p:=h
theorem kh {p:Prop} (h:p:=by simp;omega):p:=h
theorem ki {p:Prop} (h:p:=by simp only [IntKind.wrap_u64];omega):p:=h
theorem kj {p:Prop} (h:p:=by rw [World.size_alloc,s1]):p:=h
theorem kl {p:Prop} (h:p:=by intro w hSw;(try dsimp only at hSw);have r0:=Blk.cell hSw.1 0;have r1:=Blk.cell hSw.1 1;have r2:=Blk.cell hSw.1 2;have r3:=Blk.cell hSw.1 3;(try go_simp);(try simp [*])):p:=h
theorem kn {p:Prop} (h:p:=by intro w hSw;(try dsimp only at hSw);have r:=Blk.cell hSw.2.1 4;(try go_simp);(try simp [*])):p:=h
theorem kq {p:Prop} (h:p:=by intro w hSw;(try dsimp only at hSw);have r:=hSw.2.2;(try go_simp);(try simp [*])):p:=h
theorem kr {p:Prop} (h:p:=by simp [Value.oneCell']):p:=h
theorem ku {p:Prop} (h:p:=by intro w hSw;(try dsimp only at hSw);have r:=hSw.2.2.1;(try go_simp);(try simp [*])):p:=h
theorem kv {p:Prop} (h:p:=by intro w hSw;(try dsimp only at hSw);have r0:=Blk.cell hSw.2.2.2 0;have r1:=Blk.cell hSw.2.2.2 1;have r2:=Blk.cell hSw.2.2.2 2;have r3:=Blk.cell hSw.2.2.2 3;have r4:=Blk.cell hSw.2.2.2 4;have r5:=Blk.cell hSw.2.2.2 5;have r6:=Blk.cell hSw.2.2.2 6;have r7:=Blk.cell hSw.2.2.2 7;have r8:=Blk.cell hSw.2.2.2 8;(try go_simp);(try simp [*])):p:=h
theorem kw {p:Prop} (h:p:=by intro w hSw;(try dsimp only at hSw);have r:=Blk.cell hSw.2.1 1;(try go_simp);(try simp [*])):p:=h
theorem kz {p:Prop} (h:p:=by simp only [IntKind.wrap_i64];omega):p:=h
theorem k5 {p:Prop} (h:p:=by intro w hSw;(try dsimp only at hSw);have r0:=Blk.cell hSw.2.2 0;have r1:=Blk.cell hSw.2.2 1;have r2:=Blk.cell hSw.2.2 2;(try go_simp);(try simp [*])):p:=h
theorem ka1 {p:Prop} (h:p:=by assumption):p:=h
theorem kc1 {p:Prop} (h:p:=by intro w hSw;(try dsimp only at hSw);go_simp;(try simp);(try omega)):p:=h
theorem ke1 {p:Prop} (h:p:=by intro w hSw;(try dsimp only at hSw);go_simp;(try with_reducible rfl)):p:=h
theorem kf1 {p:Prop} (h:p:=by intro w hSw;(try dsimp only at hSw);go_simp;(try simp [hSw])):p:=h
theorem kg1 {p:Prop} (h:p:=by exact (show w.heap.size≠b by omega)):p:=h
theorem kh1 {p:Prop} (h:p:=by intro w hSw;(try dsimp only at hSw);have f1: ¬ ((c:Int)<8):=(by omega);have f2: ¬ c=8:=(by omega);have f3:(16:Int)<=(c:Int):=(by omega);have f4: ¬ c=16:=(by omega);have f5:(8:Int)<=(c:Int):=(by omega);have f6:(20:Int)<=(c:Int):=(by omega);go_simp;(try simp [*])):p:=h
theorem ki1 {p:Prop} (h:p:=by rw [IntKind.wrap_i64];omega):p:=h
theorem kj1 {p:Prop} (h:p:=by intro w hSw;(try dsimp only at hSw);have t1:f.tdiv 4096=f / 4096:=Int.tdiv_eq_ediv_of_nonneg f0;have u1:IntKind.u64.wrap (f / 4096)=f / 4096:=(by rw [IntKind.wrap_u64];omega);have t2:(f+l).tdiv 4096=(f+l) / 4096:=Int.tdiv_eq_ediv_of_nonneg (by omega);have u2:IntKind.u64.wrap ((f+l) / 4096)=(f+l) / 4096:=(by rw [IntKind.wrap_u64];omega);go_simp;(try simp [*])):p:=h
theorem kk1 {p:Prop} (h:p:=by rcases hb with rfl | rfl | rfl;rw [h.o3.1];omega;rw [h.o3.2.1];omega;rw [h.o3.2.2];omega):p:=h
theorem kl1 {p:Prop} (h:p:=by rw [World.size_alloc,World.size_alloc];omega):p:=h
theorem km1 {p:Prop} (h:p:=by show _<=_;rw [World.size_alloc,World.size_alloc];have:=ZM.out;omega):p:=h
theorem kn1 {p:Prop} (h:p:=by obtain ⟨g,h1,h2,h3⟩:=WU.out.own;rw [h1];intro e;cases e;omega):p:=h
theorem ko1 {p:Prop} (h:p:=by rw [World.size_alloc,World.size_alloc];have:=ZM.out;omega):p:=h
theorem kp1 {p:Prop} (h:p:=by exact (show (g:Nat)≠w.heap.size+1 by omega)):p:=h
theorem kq1 {p:Prop} (h:p:=by exact (show (w6.heap.size:Nat)≠w.heap.size+1 by omega)):p:=h
theorem kr1 {p:Prop} (h:p:=by exact (show (g:Nat)≠w.heap.size+1+1 by omega)):p:=h
theorem ks1 {p:Prop} (h:p:=by exact (show (w6.heap.size:Nat)≠w.heap.size+1+1 by omega)):p:=h
theorem kt1 {p:Prop} (h:p:=by intro e;injection e with e1;omega):p:=h
abbrev bc (w v:World):Prop:=Below w.heap.size w v
abbrev re (x:Value) (w:World) (e:Ending) (v:World):Prop:=e=.returned x/\bc w v
end Go.Proofs.YtgbdnnkkcpkhdaaGreatDoor
