import Derived.Lib.SmallJoins
import Derived.ProofKit
import Derived.Deep.RegionHeld3
namespace Go.Proofs.YtokpmclmdobgeaaGreat
open Go.ChangeShapes Go.WideShapes Go.ChangeAt Go.RowKit
section
variable {P:Program} {ops:Array Oper} {Q:Exit->Act->World->Prop} {md:Region.Mode} {S:World->Prop} {fuel:Nat} {listed:Array Bool} {a:Act} {w:World}
theorem tk (i d:Nat) (v:Value) {o1:Op} {o2 o3 o4} (hi:ops[i]? =some ⟨some d,o1,o2,o3,o4,none⟩) (hy:YieldsIf P ops S ⟨some d,o1,o2,o3,o4,none⟩ v a) (h:wpAnyH P md ops Q S fuel (listed.setIfInBounds i true) (a.put (some d) v) w) (hs:Region.noSelect ops=true:=by kernel_rfl) (hf:Region.free md ops listed i=true:=by kernel_rfl) (hr:(Region.ready md ops listed).contains i=true:=by kernel_rfl) (hQ: ∀ c a w,Q (.panic c) (a.put (some d) v) w->Q (.panic c) a w:=by exact fun _ _ _ h=>h) (hS:S w:=by assumption):wpAnyH P md ops Q S (fuel+1) listed a w:=wpAnyH_take (oi:=⟨some d,o1,o2,o3,o4,none⟩) hi hs hf hr hQ hy hS h
end
theorem z1 {α :Type} {l:List α} {i:Nat} {a: α}:l.toArray.setIfInBounds i a=(l.set i a).toArray:=by simp
theorem z2 {α :Type} {x: α} {xs:List α} {a: α}:(x::xs).set 0 a=a::xs:=rfl
theorem z3 {α :Type} {x: α} {xs:List α} {n:Nat} {a: α}:(x::xs).set (n+1) a=x::xs.set n a:=rfl
section
variable {P:Program} {ops:Array Oper} {Q:Exit->Act->World->Prop} {md:Region.Mode} {S:World->Prop} {fuel:Nat} {listed:Array Bool} {a:Act} {w:World}
theorem tla (i d:Nat) (v:Value) {o1:Op} {o2 o3 o4} (hi:ops[i]? =some ⟨some d,o1,o2,o3,o4,none⟩) (h1: ∀ w,S w->(execOp a.eval ⟨some d,o1,o2,o3,o4,none⟩).run P w=.ok (.value v) w) {a':Act} (h:wpAnyH P md ops Q S fuel (listed.setIfInBounds i true) a' w) (ha:a.put (some d) v=a':=by (try simp only [Act.put,z1,z2,z3]) <;> exact rfl) (hw:Region.wanted ⟨some d,o1,o2,o3,o4,none⟩ (yielded ops a.tmps)=true:=by rfl) (hs:Region.noSelect ops=true:=by kernel_rfl) (hf:Region.free md ops listed i=true:=by kernel_rfl) (hr:(Region.ready md ops listed).contains i=true:=by kernel_rfl) (hQ: ∀ c a w,Q (.panic c) (a.put (some d) v) w->Q (.panic c) a w:=by exact fun _ _ _ h=>h) (hS:S w:=by assumption):wpAnyH P md ops Q S (fuel+1) listed a w:=wpAnyH_take (oi:=⟨some d,o1,o2,o3,o4,none⟩) hi hs hf hr hQ (Or.inl ⟨hw,h1⟩) hS (by rw [ha];exact h)
theorem tma (i d:Nat) {v:Value} {o1:Op} {o2 o3 o4} (hi:ops[i]? =some ⟨some d,o1,o2,o3,o4,none⟩) {a':Act} (h:wpAnyH P md ops Q S fuel (listed.setIfInBounds i true) a' w) (h1: ∀ w,S w->(execOp a.eval ⟨some d,o1,o2,o3,o4,none⟩).run P w=.ok (.value v) w:=by intro w hSw;(try dsimp only at hSw);go_simp;(try with_reducible rfl)) (ha:a.put (some d) v=a':=by (try simp only [Act.put,z1,z2,z3]) <;> exact rfl) (hw:Region.wanted ⟨some d,o1,o2,o3,o4,none⟩ (yielded ops a.tmps)=true:=by rfl) (hs:Region.noSelect ops=true:=by kernel_rfl) (hf:Region.free md ops listed i=true:=by kernel_rfl) (hr:(Region.ready md ops listed).contains i=true:=by kernel_rfl) (hQ: ∀ c a w,Q (.panic c) (a.put (some d) v) w->Q (.panic c) a w:=by exact fun _ _ _ h=>h) (hS:S w:=by assumption):wpAnyH P md ops Q S (fuel+1) listed a w:=tla i d v hi h1 h ha hw hs hf hr hQ hS
end
section
variable {P:Program} {ops:Array Oper} {Q:Exit->Act->World->Prop} {md:Region.Mode} {S:World->Prop} {fuel id:Nat} {listed:Array Bool} {a:Act} {w:World}
theorem rda (i:Nat) (o:Oper) (ho:ops[i]? =some o) (h: ∀ K':Act->World->Prop,Shut (∀ a w,S w->(S w->wpAnyH P md ops Q S fuel (listed.setIfInBounds i true) a w)->K' a w)->if Region.wanted o (yielded ops a.tmps)=true then Oper.wp P o a w K' Q else K' (a.put o.dst undef) w) (hr:Region.ready md ops listed=[i]:=by kernel_rfl):wpAnyH P md ops Q S (fuel+1) listed a w:=wpAnyH_ready hr (by simp) (AllReadyH.cons ho h AllReadyH.nil)
theorem hda (S:World->Prop) (hS:S w.drew) (h:S w.drew->wpAnyH P .any ops (NoPanic Q) S ops.size (Array.replicate ops.size false) a w.drew) (hm:P.follows .mixedOrders=true:=by kernel_rfl):(Code.region id ops true).wp P Q a w:=wp_region_noPanic (wp_region_held_drew hm hS h)
end
theorem baa {w:World} {o:Obj}:Below w.heap.size w (w.alloc o):=Go.Joins.below_alloc1 _ _
theorem nla {a b c:Nat} (h:a<b) (k:b<=c):a<c:=Nat.lt_of_lt_of_le h k
theorem sia {A:Type} {a b:A} (h:some a=some b):a=b:=Option.some.inj h
theorem bca {p:Prop} (h: ¬ p->False):p:=Classical.byContradiction h
theorem zaa {α :Type} {l:List α} {i:Nat} {a: α}:l.toArray.setIfInBounds i a=(l.set i a).toArray:=by simp
theorem zba {α :Type} {x: α} {xs:List α} {a: α}:(x::xs).set 0 a=a::xs:=rfl
theorem zca {α :Type} {x: α} {xs:List α} {n:Nat} {a: α}:(x::xs).set (n+1) a=x::xs.set n a:=rfl
abbrev sn (x0 x1 x2 x3:Int) (x4:Bool):List Value:=[.int .i64 x0,.int .i64 x1,.int .i64 x2,.int .i64 x3,.bool x4]
abbrev so (x0 x1 x2 x3 x4 x5:Int):Array Value:=#[.int .i64 x0,.int .i64 x1,.int .i64 x2,.int .i64 x3,.int .i64 x4,.int .i64 x5]
abbrev sq (x0 x1 x2:Int) (x3 x4 x5:Bool) (x6 x7 x8 x9 x10 x11 x12:Int):Array Value:=#[.int .i64 x0,.int .i64 x1,.int .i64 x2,.bool x3,.bool x4,.bool x5,.int .u64 x6,.int .i64 x7,.int .u64 x8,.int .i64 x9,.int .i64 x10,.int .i64 x11,.int .i64 x12]
abbrev su (x0 x1 x2:Int) (x3 x4 x5:Bool) (x6 x7 x8 x9 x10 x11 x12:Int):List Value:=[.int .i64 x0,.int .i64 x1,.int .i64 x2,.bool x3,.bool x4,.bool x5,.int .u64 x6,.int .i64 x7,.int .u64 x8,.int .i64 x9,.int .i64 x10,.int .i64 x11,.int .i64 x12]
abbrev sw (x0 x1 x2 x3 x4:Int) (x5:Bool):Array Value:=#[.int .i64 x0,.int .u64 x1,.int .i64 x2,.int .u64 x3,.int .i64 x4,.bool x5]
abbrev sx (x0 x1 x2 x3 x4:Int) (x5:Bool):List Value:=[.int .i64 x0,.int .u64 x1,.int .i64 x2,.int .u64 x3,.int .i64 x4,.bool x5]
abbrev sy (x0 x1:Int) (x2 x3 x4:Bool) (x5:Int):List Value:=[.int .i64 x0,.int .i64 x1,.bool x2,.bool x3,.bool x4,.int .i64 x5]
abbrev s7 (x0 x1:Int) (x2 x3 x4:Bool) (x5:Int):Array Value:=#[.int .i64 x0,.int .i64 x1,.bool x2,.bool x3,.bool x4,.int .i64 x5]
abbrev s9 (x0 x1 x2:Bool):Array Value:=#[.bool x0,.bool x1,.bool x2]
abbrev sa1 (x0 x1 x2:Int) (x3 x4:Bool) (x5:Int):List Value:=[.int .i64 x0,.int .i64 x1,.int .i64 x2,.bool x3,.bool x4,.int .i64 x5]
abbrev sb1 (x0 x1 x2:Int) (x3 x4:Bool) (x5:Int):Array Value:=#[.int .i64 x0,.int .i64 x1,.int .i64 x2,.bool x3,.bool x4,.int .i64 x5]
abbrev sc1 (x0 x1 x2 x3 x4 x5:Int) (x6:Bool) (x7 x8 x9 x10 x11 x12:Int):Array Value:=#[.int .u64 x0,.int .u64 x1,.int .u64 x2,.int .u64 x3,.int .i64 x4,.int .u64 x5,.bool x6,.int .u64 x7,.int .i64 x8,.int .u64 x9,.int .u64 x10,.int .u64 x11,.int .u64 x12]
abbrev sd1 (x0 x1 x2 x3 x4 x5:Int) (x6:Bool) (x7 x8 x9 x10 x11 x12:Int):List Value:=[.int .u64 x0,.int .u64 x1,.int .u64 x2,.int .u64 x3,.int .i64 x4,.int .u64 x5,.bool x6,.int .u64 x7,.int .i64 x8,.int .u64 x9,.int .u64 x10,.int .u64 x11,.int .u64 x12]
abbrev se1 (x0 x1 x2 x3 x4 x5 x6 x7:Int) (x8:Bool) (x9 x10 x11 x12 x13 x14:Int) (x15 x16 x17:Value):List Value:=[.int .i64 x0,.int .i64 x1,.int .u64 x2,.int .u64 x3,.int .u64 x4,.int .u64 x5,.int .i64 x6,.int .u64 x7,.bool x8,.int .u64 x9,.int .i64 x10,.int .u64 x11,.int .u64 x12,.int .u64 x13,.int .u64 x14,x15,x16,x17]
abbrev sf1 (x0 x1 x2 x3 x4 x5:Int):Array Value:=#[.int .u64 x0,.int .u64 x1,.int .u64 x2,.int .u64 x3,.int .u64 x4,.int .u64 x5]
abbrev sg1 (x0 x1 x2 x3 x4 x5 x6:Int):Array Value:=#[.int .u64 x0,.int .u64 x1,.int .u64 x2,.int .u64 x3,.int .u64 x4,.int .u64 x5,.int .i64 x6]
abbrev sh1 (x0 x1 x2:Bool):List Value:=[.bool x0,.bool x1,.bool x2]
abbrev si1 (x0 x1 x2 x3 x4 x5 x6 x7:Int) (x8:Bool) (x9 x10 x11 x12 x13 x14:Int) (x15 x16 x17:Value):Array Value:=#[.int .i64 x0,.int .i64 x1,.int .u64 x2,.int .u64 x3,.int .u64 x4,.int .u64 x5,.int .i64 x6,.int .u64 x7,.bool x8,.int .u64 x9,.int .i64 x10,.int .u64 x11,.int .u64 x12,.int .u64 x13,.int .u64 x14,x15,x16,x17]
abbrev sj1 (x0 x1 x2 x3 x4 x5:Int):List Value:=[.int .u64 x0,.int .u64 x1,.int .u64 x2,.int .u64 x3,.int .u64 x4,.int .u64 x5]
abbrev sk1:Array Value:=#[.int .i64 0,.int .i64 0,.int .i64 0,.int .i64 0,.bool false]
abbrev sl1:Array Value:=#[.int .i64 0,.int .u64 0,.int .i64 0,.int .u64 0,.int .i64 0,.bool false]
abbrev sm1:List Value:=[.int .i64 0,.int .u64 0,.int .i64 0,.int .u64 0,.int .i64 0,.bool false]
abbrev sn1:Array Value:=#[.int .i64 0,.int .i64 0,.bool false,.bool false,.bool false,.int .i64 0]
abbrev so1:List Value:=[.int .i64 0,.int .i64 0,.bool false,.bool false,.bool false,.int .i64 0]
abbrev sp1:List Value:=[.int .i64 0,.int .i64 0,.int .i64 0,.bool false,.bool false,.int .i64 0]
abbrev sq1:Array Value:=#[.int .i64 0,.int .i64 0,.int .i64 0,.bool false,.bool false,.int .i64 0]
abbrev sr1:List Value:=[.bool false,.bool false,.bool false]
abbrev ss1:List Value:=[.bool false,.bool true,.bool false]
abbrev st1:Array Value:=#[.bool false,.bool true,.bool false]
abbrev su1:List Value:=[.bool true,.bool true,.bool false]
abbrev sv1:Array Value:=#[.bool true,.bool true,.bool false]
abbrev sw1:List Value:=[.int .i64 0,.int .i64 0,.int .i64 0,.bool false,.bool false,.bool false,.int .u64 0,.int .i64 0,.int .u64 0,.int .i64 0,.int .i64 0,.int .i64 0,.int .i64 0]
abbrev sx1:Array Value:=#[.int .i64 0,.int .i64 0,.int .i64 0,.bool false,.bool false,.bool false,.int .u64 0,.int .i64 0,.int .u64 0,.int .i64 0,.int .i64 0,.int .i64 0,.int .i64 0]
abbrev sy1:Array Value:=#[.int .u64 0,.int .u64 0,.int .u64 0,.int .u64 0,.int .i64 0,.int .u64 0,.bool false,.int .u64 0,.int .i64 0,.int .u64 0,.int .u64 0,.int .u64 0,.int .u64 0]
abbrev sz1:List Value:=[.int .u64 0,.int .u64 0,.int .u64 0,.int .u64 0,.int .i64 0,.int .u64 0,.bool false,.int .u64 0,.int .i64 0,.int .u64 0,.int .u64 0,.int .u64 0,.int .u64 0]
theorem kc {p:Prop} (h:p:=by kernel_rfl):p:=h
theorem ke {p:Prop} (h:p:=by rw [hl];rfl):p:=h
theorem kg {p:Prop} (h:p:=by simp;omega):p:=h
theorem kh {p:Prop} (h:p:=by decide):p:=h
theorem ki {p:Prop} (h:p:=by rw [HL.out];rfl):p:=h
theorem kj {p:Prop} (h:p:=by assumption):p:=h
theorem kn {p:Prop} (h:p:=by intro w hSw;(try dsimp only at hSw);go_simp;(try simp);(try omega)):p:=h
theorem kp {p:Prop} (h:p:=by intro w hSw;(try dsimp only at hSw);go_simp;(try with_reducible rfl)):p:=h
theorem kq {p:Prop} (h:p:=by intro w hSw;(try dsimp only at hSw);go_simp;(try simp);(try (simp only [IntKind.wrap_i64]));(try omega)):p:=h
theorem kr {p:Prop} (h:p:=by intro w hSw;(try dsimp only at hSw);go_simp;(try simp [hSw])):p:=h
theorem ks {p:Prop} (h:p:=by show _<=_;omega):p:=h
theorem ku {p:Prop} (h:p:=by rw [World.size_alloc,s1]):p:=h
theorem kx {p:Prop} (h:p:=by show w.heap.size<_;omega):p:=h
theorem ky {p:Prop} (h:p:=by show _=_;rw [ewc];exact four_block wr _ _ (by omega) (by omega)):p:=h
theorem kz {p:Prop} (h:p:=by show _=_;rw [<- hX,set_block (by omega),set_block (by omega),set_block (by omega)];exact GA.out):p:=h
theorem ka1 {p:Prop} (h:p:=by show _=_;rw [<- hX];exact set_same ((set_block (by omega)).trans ((set_block (by omega)).trans GD.out)) rfl):p:=h
theorem kb1 {p:Prop} (h:p:=by show Below _ _ _;rw [<- hX];exact ((BU.out.setCell (p:=⟨B,0,none⟩) (Nat.le_of_lt lB) _).setCell (p:=⟨B,1,none⟩) (Nat.le_of_lt lB) _).setCell (p:=⟨D,0,none⟩) (Nat.le_of_lt lD) _):p:=h
theorem kc1 {p:Prop} (h:p:=by intro w hSw;(try dsimp only at hSw);have q0:w.cell? ⟨A,0,none⟩=some (.int .i64 r1):=Go.Joins.cell_of_block hSw.1 0;have q1:w.cell? ⟨A,1,none⟩=some (.int .i64 am):=Go.Joins.cell_of_block hSw.1 1;have q2:w.cell? ⟨A,2,none⟩=some (.bool r3):=Go.Joins.cell_of_block hSw.1 2;have q3:w.cell? ⟨A,3,none⟩=some (.bool r4):=Go.Joins.cell_of_block hSw.1 3;have q4:w.cell? ⟨A,4,none⟩=some (.bool r5):=Go.Joins.cell_of_block hSw.1 4;have q5:w.cell? ⟨A,5,none⟩=some (.int .i64 r6):=Go.Joins.cell_of_block hSw.1 5;go_simp;(try simp)):p:=h
theorem kd1 {p:Prop} (h:p:=by intro w hSw;(try dsimp only at hSw);have q0:w.cell? ⟨B,0,none⟩=some (.int .i64 mf):=Go.Joins.cell_of_block hSw.2.1 0;have q1:w.cell? ⟨B,1,none⟩=some (.int .i64 mt):=Go.Joins.cell_of_block hSw.2.1 1;have q2:w.cell? ⟨B,2,none⟩=some (.bool r3):=Go.Joins.cell_of_block hSw.2.1 2;have q3:w.cell? ⟨B,3,none⟩=some (.bool r4):=Go.Joins.cell_of_block hSw.2.1 3;have q4:w.cell? ⟨B,4,none⟩=some (.bool r5):=Go.Joins.cell_of_block hSw.2.1 4;have q5:w.cell? ⟨B,5,none⟩=some (.int .i64 r6):=Go.Joins.cell_of_block hSw.2.1 5;go_simp;(try simp)):p:=h
theorem ke1 {p:Prop} (h:p:=by intro w hSw;(try dsimp only at hSw);have q0:w.cell? ⟨D,0,none⟩=some (.int .i64 bf):=Go.Joins.cell_of_block hSw.2.2 0;have q1:w.cell? ⟨D,1,none⟩=some (.int .i64 r2):=Go.Joins.cell_of_block hSw.2.2 1;have q2:w.cell? ⟨D,2,none⟩=some (.bool r3):=Go.Joins.cell_of_block hSw.2.2 2;have q3:w.cell? ⟨D,3,none⟩=some (.bool r4):=Go.Joins.cell_of_block hSw.2.2 3;have q4:w.cell? ⟨D,4,none⟩=some (.bool r5):=Go.Joins.cell_of_block hSw.2.2 4;have q5:w.cell? ⟨D,5,none⟩=some (.int .i64 r6):=Go.Joins.cell_of_block hSw.2.2 5;go_simp;(try simp)):p:=h
theorem kf1 {p:Prop} (h:p:=by show w.heap.size<_;rw [World.size_alloc,World.size_alloc];omega):p:=h
theorem kg1 {p:Prop} (h:p:=by show w.heap.size+1<_;rw [World.size_alloc,World.size_alloc];omega):p:=h
theorem kh1 {p:Prop} (h:p:=by simp [results,Tryz.results86,go_sem,n0,n1,n2,n3,n4,n5];try rfl):p:=h
theorem ki1 {p:Prop} (h:p:=by rw [hq];exact G0.out):p:=h
theorem kj1 {p:Prop} (h:p:=by intro w hSw;(try dsimp only at hSw);have r:=hSw.1.2.1;(try go_simp);(try simp [*])):p:=h
theorem kk1 {p:Prop} (h:p:=by intro w hSw;(try dsimp only at hSw);have r:=Blk.cell hSw.2 1;(try go_simp);(try simp [*])):p:=h
theorem kl1 {p:Prop} (h:p:=by have:=HP.out;unfold maxLen;omega):p:=h
theorem km1 {p:Prop} (h:p:=by simp only [IntKind.wrap_i64];omega):p:=h
theorem kn1 {p:Prop} (h:p:=by rw [h.o1];omega):p:=h
theorem kp1 {p:Prop} (h:p:=by rw [h.o2];omega):p:=h
theorem kq1 {p:Prop} (h:p:=by simp [Value.oneCell']):p:=h
theorem kr1 {p:Prop} (h:p:=by rw [if_neg hq] at hc;cases hc):p:=h
theorem ks1 {p:Prop} (h:p:=by rw [if_pos hq] at hc;cases hc):p:=h
theorem kt1 {p:Prop} (h:p:=by rw [hb1];exact G0.out):p:=h
theorem ku1 {p:Prop} (h:p:=by rw [hb2,hb1];exact G0.out):p:=h
theorem kv1 {p:Prop} (h:p:=by intro w hSw;(try dsimp only at hSw);have r:w.cell? ⟨M.mb,1538,none⟩=some (.map (some M.pm)):=(HM.out.below (below_then G1.out.1 hSw)).mod.2.2.1;(try go_simp);(try simp [*])):p:=h
theorem kw1 {p:Prop} (h:p:=by rw [<- s1];exact (Blk.made _ _ _).below b2):p:=h
theorem kx1 {p:Prop} (h:p:=by rw [<- s2];exact Blk.made _ _ _):p:=h
theorem ky1 {p:Prop} (h:p:=by intro w hSw;(try dsimp only at hSw);have r:=hSw.2.1;(try go_simp);(try simp [*])):p:=h
theorem kz1 {p:Prop} (h:p:=by intro w hSw;(try dsimp only at hSw);have r:=LKC.out w hSw.2.2;(try go_simp);(try simp [*])):p:=h
theorem k01 {p:Prop} (h:p:=by intro w hSw;(try dsimp only at hSw);have r0:=Blk.cell hSw.1 0;have r1:=Blk.cell hSw.1 1;have r2:=Blk.cell hSw.1 2;have r3:=Blk.cell hSw.1 3;have r4:=Blk.cell hSw.1 4;have r5:=Blk.cell hSw.1 5;have r6:=Blk.cell hSw.1 6;have r7:=Blk.cell hSw.1 7;have r8:=Blk.cell hSw.1 8;have r9:=Blk.cell hSw.1 9;have r10:=Blk.cell hSw.1 10;have r11:=Blk.cell hSw.1 11;have r12:=Blk.cell hSw.1 12;(try go_simp);(try simp [*])):p:=h
theorem k11 {p:Prop} (h:p:=by intro w hSw;(try dsimp only at hSw);have r:w.cell? ⟨b1,9,none⟩=some (.int .i64 k6):=(G1.out.2.1.below hSw).cell 9;(try go_simp);(try simp [*])):p:=h
theorem k21 {p:Prop} (h:p:=by intro w hSw;(try dsimp only at hSw);have r:w.cell? ⟨b1,9,none⟩=some (.int .i64 k6):=hSw.cell 9;(try go_simp);(try simp [*])):p:=h
theorem k31 {p:Prop} (h:p:=by intro w hSw;(try dsimp only at hSw);have r:=hSw.1.2.2.1;(try go_simp);(try simp [*])):p:=h
theorem k41 {p:Prop} (h:p:=by intro w hSw;(try dsimp only at hSw);have r:=PL.out w hSw.2.1;(try go_simp);(try simp [*])):p:=h
theorem k51 {p:Prop} (h:p:=by intro w hSw;(try dsimp only at hSw);have r0:=Blk.cell hSw.2.2 0;have r1:=Blk.cell hSw.2.2 1;have r2:=Blk.cell hSw.2.2 2;have r3:=Blk.cell hSw.2.2 3;have r4:=Blk.cell hSw.2.2 4;have r5:=Blk.cell hSw.2.2 5;have r6:=Blk.cell hSw.2.2 6;have r7:=Blk.cell hSw.2.2 7;have r8:=Blk.cell hSw.2.2 8;have r9:=Blk.cell hSw.2.2 9;have r10:=Blk.cell hSw.2.2 10;have r11:=Blk.cell hSw.2.2 11;have r12:=Blk.cell hSw.2.2 12;(try go_simp);(try simp [*])):p:=h
theorem k61 {p:Prop} (h:p:=by rintro e w' ⟨rfl,hb⟩;exact ⟨rfl,hw2.tx_below hb⟩):p:=h
abbrev bc (w v:World):Prop:=Below w.heap.size w v
abbrev re (x:Value) (w:World) (e:Ending) (v:World):Prop:=e=.returned x/\bc w v
end Go.Proofs.YtokpmclmdobgeaaGreat
