import Derived.Test.YtkiclbnbnjbcaaaDoorMP
import Derived.Test.YtkiclbnbnjbcaaaDoorRX
import Derived.WalkSmall
import Derived.Test.YtkiclbnbnjbcaaaDoorRK
import Derived.Laws.CopyOwn
import Derived.Laws.Tables
import Derived.Laws.Rows
import Derived.OwnWalk
import Derived.Laws.AppendOwn
import Derived.Laws.MakeOwn
namespace Go.Proofs.YtkiclbnbnjbcaaaDoor
open Go.ChangeShapes Go.WideShapes Go.ChangeAt Go.RowKit Go.Maps
set_option linter.unusedSimpArgs false
set_option linter.unusedVariables false
set_option maxRecDepth 8000
def codeV (x u f:Bool):Int:=fl x 2+fl u 4+fl f 16
theorem code_any (x u f:Bool) (w:World):Calls Tryd.prog 50 #[.agg #[.bool x,.bool u,.bool f]] w fun e w'=>e=.returned (.int .i64 (codeV x u f))/\Below w.heap.size w w':=by
 have o1:bits .or .i64 0 2=2:=by decide
 have o2:bits .or .i64 0 4=4:=by decide
 have o3:bits .or .i64 0 16=16:=by decide
 have o4:bits .or .i64 2 4=6:=by decide
 have o5:bits .or .i64 2 16=18:=by decide
 have o6:bits .or .i64 4 16=20:=by decide
 have o7:bits .or .i64 6 16=22:=by decide
 cases x <;> cases u <;> cases f
 all_goals
  go_enter Tryd.func50,Tryd.ntmps50
  go_wp2
  go_returns
  exact ⟨rfl,Go.Joins.below_alloc1 _ _⟩
def mayV (pw pu px x u f:Bool):Bool:=(!x || pw) && (!u || pu) && (!f || px)
theorem may_any (pw pu px x u f:Bool) (w:World):Calls Tryd.prog 25 #[.agg #[.bool pw,.bool pu,.bool px],.agg #[.bool x,.bool u,.bool f]] w fun e w'=>e=.returned (.bool (mayV pw pu px x u f))/\Below w.heap.size w w':=by
 cases x <;> cases u <;> cases f
 all_goals
  go_enter Tryd.func25,Tryd.ntmps25
  go_wp2
  all_goals
   go_returns
   refine ⟨?_,Go.Joins.below_alloc2 _ _ _⟩
   simp_all [mayV]
def refv (addr code err:Int):PanicEntry:={ v:=.iface 117 (.agg #[.int .u64 addr,.int .i64 code,.int .i64 err]),recovered:=false }
set_option maxHeartbeats 400000 in
theorem refuse_any (addr code more c:Int) (hc:bits .or .i64 code more=c) (w:World):Calls Tryd.prog 53 #[.agg #[.int .u64 addr,.int .i64 code],.int .i64 more] w fun e w'=>e=.panicked [refv addr c 9]/\Below w.heap.size w w':=by
 go_enter Tryd.func53,Tryd.ntmps53
 go_wp2
 exact ⟨rfl,rfl,Go.Joins.below_alloc1 _ _⟩
end Go.Proofs.YtkiclbnbnjbcaaaDoor
namespace Go.Proofs.YtkiclbnbnjbcaaaDoor
open Go.ChangeShapes Go.WideShapes Go.ChangeAt Go.RowKit Go.Maps
set_option linter.unusedSimpArgs false
set_option linter.unusedVariables false
set_option maxRecDepth 8000
theorem grown_of_below' {w w':World} (h:Below w.heap.size w w'):w.grownBy w' none:=⟨h.os,h.tape,h.output,h.size,fun k hk _=>h.block k hk⟩
theorem below_of_grown' {w w':World} (h:w.grownBy w' none):Below w.heap.size w w':=⟨h.os,h.tape,h.output,h.size,fun k hk=>h.block k hk (by simp)⟩
theorem own1 (w:World) (o:Obj):(w.alloc o).heap[w.heap.size]? =some o:=(MapKept.heap_alloc w o).1
theorem own2a (w:World) (o p:Obj):((w.alloc o).alloc p).heap[w.heap.size]? =some o:=((Go.Joins.below_alloc1 (w.alloc o) p).block _ (by rw [World.size_alloc];omega)).trans (own1 w o)
theorem own2b (w:World) (o p:Obj):((w.alloc o).alloc p).heap[w.heap.size+1]? =some p:=by
 have:=own1 (w.alloc o) p
 rw [World.size_alloc] at this;exact this
theorem own3a (w:World) (o p q:Obj):(((w.alloc o).alloc p).alloc q).heap[w.heap.size]? =some o:=((Go.Joins.below_alloc1 _ q).block _ (by rw [World.size_alloc,World.size_alloc];omega)).trans (own2a w o p)
theorem own3b (w:World) (o p q:Obj):(((w.alloc o).alloc p).alloc q).heap[w.heap.size+1]? =some p:=((Go.Joins.below_alloc1 _ q).block _ (by rw [World.size_alloc,World.size_alloc];omega)).trans (own2b w o p)
theorem own3c (w:World) (o p q:Obj):(((w.alloc o).alloc p).alloc q).heap[w.heap.size+2]? =some q:=by
 have:=own1 ((w.alloc o).alloc p) q
 rw [World.size_alloc,World.size_alloc] at this;exact this
def Rd (w:World) (rb:Nat) (has:Int->Bool) (F:Int) (M:Int->Int) (n:Nat):Prop:=IsRam w 0 rb has F M n/\Tab w
theorem Rd.keep {w w':World} {rb n:Nat} {has:Int->Bool} {F:Int} {M:Int->Int} (h:Rd w rb has F M n) (hb:Below w.heap.size w w'):Rd w' rb has F M n:=⟨h.1.grown (grown_of_below' hb),h.2.keep hb⟩
def stepv (A X:Int) (y0 y1 y2 y3 y4 y5 y6 y7:Bool) (y8 L:Int):Value:=.agg #[.int .u64 A,.int .u64 X,.bool y0,.bool y1,.bool y2,.bool y3,.bool y4,.bool y5,.bool y6,.bool y7,.int .i64 y8,.int .i64 L]
theorem ldc {rb n:Nat} {has:Int->Bool} {F:Int} {M:Int->Int} (A X:Int) (h0:0<=A) (h1:A<18446744073709551616) (hz:chkG has A 8=0) (hX:ld M A (8:Int).toNat=X) :
 Hid (∀ w:World,Rd w rb has F M n->Calls Tryd.prog 85 #[.pointer (some ⟨rb,0,none⟩),.int .u64 A,.int .i64 8] w fun e w'=>e=.returned (.tuple #[.int .u64 X,.int .i64 0])/\Below w.heap.size w w') :=
 fun w h=>(load_okG h.1 A 8 X h0 h1 hz hX).mono fun e w' ⟨he,hg⟩=>⟨he,below_of_grown' hg⟩
theorem lec {rb n:Nat} {has:Int->Bool} {F:Int} {M:Int->Int} (A z:Int) (h0:0<=A) (h1:A<18446744073709551616) (hz:chkG has A 8=z) (hnz:z≠0) :
 Hid (∀ w:World,Rd w rb has F M n->Calls Tryd.prog 85 #[.pointer (some ⟨rb,0,none⟩),.int .u64 A,.int .i64 8] w fun e w'=>e=.returned (.tuple #[.int .u64 0,.int .i64 z])/\Below w.heap.size w w') :=
 fun w h=>(load_errG h.1 A 8 h0 h1 z hz hnz).mono fun e w' ⟨he,hg⟩=>⟨he,below_of_grown' hg⟩
set_option maxHeartbeats 400000 in
theorem look_bus {rb n:Nat} {has:Int->Bool} {F:Int} {M:Int->Int} (T P L ad cd X:Int) (t0:0<=T) (t1:T<1048576) (p0:0<=P) (p1:P<512) (z:Int) (hk:chkG has (T*4096+P*8) 8=z) (hz:z≠0) (w:World) (h:Rd w rb has F M n) :
 Calls Tryd.prog 76 #[.pointer (some ⟨rb,0,none⟩),.int .i64 T,.int .i64 P,.int .i64 L,.agg #[.int .u64 ad,.int .i64 cd]] w fun e w'=>e=.panicked [refv 0 0 z]/\Below w.heap.size w w':=by
 have O:=lec (rb:=rb) (n:=n) (F:=F) (M:=M) (T*4096+P*8) z (by omega) (by omega) hk hz
 have H:Hid (Rd w rb has F M n):=h
 have zz:(z != 0)=true:=bne_iff_ne.2 hz
 clear h hk hz
 go_enter Tryd.func76,Tryd.ntmps76
 go_wp2_with fail
 refine (O.out _ (H.out.keep (by first | exact Below.refl _ _ | exact below_new (Below.refl _ _) _ | exact below_new2 (Below.refl _ _) _ _ | exact below_new (below_new2 (Below.refl _ _) _ _) _))).mono ?_
 rintro e w1 ⟨rfl,h1⟩
 have B1:Hid (Below w.heap.size w w1):=below_then (by first | exact Below.refl _ _ | exact below_new (Below.refl _ _) _ | exact below_new2 (Below.refl _ _) _ _ | exact below_new (below_new2 (Below.refl _ _) _ _) _) h1
 clear h1
 go_wp2_with fail
 exact ⟨rfl,rfl,by first | exact B1.out | exact below_new (B1.out) _ | exact below_new2 (B1.out) _ _ | exact below_new (below_new2 (B1.out) _ _) _⟩
set_option maxHeartbeats 400000 in
theorem look_absent {rb n:Nat} {has:Int->Bool} {F:Int} {M:Int->Int} (T P L ad cd X:Int) (t0:0<=T) (t1:T<1048576) (p0:0<=P) (p1:P<512) (y0 y1 y2 y3 y4 y5 y6 y7:Bool) (y8:Int) (hk:chkG has (T*4096+P*8) 8=0) (hX:ld M (T*4096+P*8) (8:Int).toNat=X) (hx0:0<=X) (hx1:X<18446744073709551616) (hy:unp X=.agg #[.bool y0,.bool y1,.bool y2,.bool y3,.bool y4,.bool y5,.bool y6,.bool y7,.int .i64 y8]) (hp:y0=false) (c0:bits .or .i64 cd 0=cd) (w:World) (h:Rd w rb has F M n) :
 Calls Tryd.prog 76 #[.pointer (some ⟨rb,0,none⟩),.int .i64 T,.int .i64 P,.int .i64 L,.agg #[.int .u64 ad,.int .i64 cd]] w fun e w'=>e=.panicked [refv ad cd 9]/\Below w.heap.size w w':=by
 have O:=ldc (rb:=rb) (n:=n) (F:=F) (M:=M) (T*4096+P*8) X (by omega) (by omega) hk hX
 have U:Hid (∀ w:World,Tab w->Calls Tryd.prog 86 #[.int .u64 X] w fun e w'=>e=.returned (.agg #[.bool y0,.bool y1,.bool y2,.bool y3,.bool y4,.bool y5,.bool y6,.bool y7,.int .i64 y8])/\Below w.heap.size w w'):=fun w ht=>by rw [<- hy];exact unpack_any X hx0 hx1 w ht
 have H:Hid (Rd w rb has F M n):=h
 have R:Hid (∀ w:World,Calls Tryd.prog 53 #[.agg #[.int .u64 ad,.int .i64 cd],.int .i64 0] w fun e w'=>e=.panicked [refv ad cd 9]/\Below w.heap.size w w'):=fun w=>refuse_any ad cd 0 cd c0 w
 subst hp
 clear c0
 clear h hk hX hy hx0 hx1
 go_enter Tryd.func76,Tryd.ntmps76
 go_wp2_with fail
 refine (O.out _ (H.out.keep (by first | exact Below.refl _ _ | exact below_new (Below.refl _ _) _ | exact below_new2 (Below.refl _ _) _ _ | exact below_new (below_new2 (Below.refl _ _) _ _) _))).mono ?_
 rintro e w1 ⟨rfl,h1⟩
 have zm1:w.heap.size<w1.heap.size:=Nat.lt_of_lt_of_le (by first | (simp;done) | (simp;omega)) h1.size
 have cm1_0:w1.cell? ⟨w.heap.size,0,none⟩=some (.int .u64 ad):=cell_next h1 (by first | (simp;done) | (simp;omega)) (by first | (simp;done))
 have cm1_1:w1.cell? ⟨w.heap.size,1,none⟩=some (.int .i64 cd):=cell_next h1 (by first | (simp;done) | (simp;omega)) (by first | (simp;done))
 have B1:Hid (Below w.heap.size w w1):=below_then (by first | exact Below.refl _ _ | exact below_new (Below.refl _ _) _ | exact below_new2 (Below.refl _ _) _ _ | exact below_new (below_new2 (Below.refl _ _) _ _) _) h1
 clear h1
 go_wp2_with fail
 refine (U.out _ (H.out.keep (by first | exact B1.out | exact below_new (B1.out) _ | exact below_new2 (B1.out) _ _ | exact below_new (below_new2 (B1.out) _ _) _)).2).mono ?_
 rintro e w2 ⟨rfl,h2⟩
 have zm2:w.heap.size<w2.heap.size:=Nat.lt_of_lt_of_le (by first | exact zm1 | (rw [World.size_alloc];omega) | (simp;done) | (simp;omega)) h2.size
 have cm2_0:w2.cell? ⟨w.heap.size,0,none⟩=some (.int .u64 ad):=cell_next h2 (by first | exact zm1 | (rw [World.size_alloc];omega) | (simp;done) | (simp;omega)) (by first | exact cm1_0 | exact (cell_old zm1 _).trans cm1_0 | (simp;done))
 have cm2_1:w2.cell? ⟨w.heap.size,1,none⟩=some (.int .i64 cd):=cell_next h2 (by first | exact zm1 | (rw [World.size_alloc];omega) | (simp;done) | (simp;omega)) (by first | exact cm1_1 | exact (cell_old zm1 _).trans cm1_1 | (simp;done))
 clear zm1 cm1_0 cm1_1
 have B2:Hid (Below w.heap.size w w2):=below_then (by first | exact B1.out | exact below_new (B1.out) _ | exact below_new2 (B1.out) _ _ | exact below_new (below_new2 (B1.out) _ _) _) h2
 clear h2
 go_wp2_with fail
 refine (R.out _).mono ?_
 rintro e w3 ⟨rfl,h3⟩
 have B3:Hid (Below w.heap.size w w3):=below_then (by first | exact B2.out | exact below_new (B2.out) _ | exact below_new2 (B2.out) _ _ | exact below_new (below_new2 (B2.out) _ _) _) h3
 clear h3
 exact ⟨rfl,rfl,B3.out⟩
set_option maxHeartbeats 400000 in
theorem look_reserved {rb n:Nat} {has:Int->Bool} {F:Int} {M:Int->Int} (T P L ad cd X:Int) (t0:0<=T) (t1:T<1048576) (p0:0<=P) (p1:P<512) (y0 y1 y2 y3 y4 y5 y6 y7:Bool) (y8:Int) (hk:chkG has (T*4096+P*8) 8=0) (hX:ld M (T*4096+P*8) (8:Int).toNat=X) (hx0:0<=X) (hx1:X<18446744073709551616) (hy:unp X=.agg #[.bool y0,.bool y1,.bool y2,.bool y3,.bool y4,.bool y5,.bool y6,.bool y7,.int .i64 y8]) (hp:y0=true) (hr:resV X L=true) (c:Int) (c0:bits .or .i64 cd 9=c) (w:World) (h:Rd w rb has F M n) :
 Calls Tryd.prog 76 #[.pointer (some ⟨rb,0,none⟩),.int .i64 T,.int .i64 P,.int .i64 L,.agg #[.int .u64 ad,.int .i64 cd]] w fun e w'=>e=.panicked [refv ad c 9]/\Below w.heap.size w w':=by
 have O:=ldc (rb:=rb) (n:=n) (F:=F) (M:=M) (T*4096+P*8) X (by omega) (by omega) hk hX
 have U:Hid (∀ w:World,Tab w->Calls Tryd.prog 86 #[.int .u64 X] w fun e w'=>e=.returned (.agg #[.bool y0,.bool y1,.bool y2,.bool y3,.bool y4,.bool y5,.bool y6,.bool y7,.int .i64 y8])/\Below w.heap.size w w'):=fun w ht=>by rw [<- hy];exact unpack_any X hx0 hx1 w ht
 have H:Hid (Rd w rb has F M n):=h
 have R:Hid (∀ w:World,Calls Tryd.prog 53 #[.agg #[.int .u64 ad,.int .i64 cd],.int .i64 9] w fun e w'=>e=.panicked [refv ad c 9]/\Below w.heap.size w w'):=fun w=>refuse_any ad cd 9 c c0 w
 have V:Hid (∀ w:World,Calls Tryd.prog 87 #[.int .u64 X,.int .i64 L] w fun e w'=>e=.returned (.bool true)/\w'=w):=fun w=>by rw [<- hr];exact reserved_any X L hx0 hx1 w
 subst hp
 clear c0 hr
 clear h hk hX hy hx0 hx1
 go_enter Tryd.func76,Tryd.ntmps76
 go_wp2_with fail
 refine (O.out _ (H.out.keep (by first | exact Below.refl _ _ | exact below_new (Below.refl _ _) _ | exact below_new2 (Below.refl _ _) _ _ | exact below_new (below_new2 (Below.refl _ _) _ _) _))).mono ?_
 rintro e w1 ⟨rfl,h1⟩
 have zm1:w.heap.size<w1.heap.size:=Nat.lt_of_lt_of_le (by first | (simp;done) | (simp;omega)) h1.size
 have cm1_0:w1.cell? ⟨w.heap.size,0,none⟩=some (.int .u64 ad):=cell_next h1 (by first | (simp;done) | (simp;omega)) (by first | (simp;done))
 have cm1_1:w1.cell? ⟨w.heap.size,1,none⟩=some (.int .i64 cd):=cell_next h1 (by first | (simp;done) | (simp;omega)) (by first | (simp;done))
 have B1:Hid (Below w.heap.size w w1):=below_then (by first | exact Below.refl _ _ | exact below_new (Below.refl _ _) _ | exact below_new2 (Below.refl _ _) _ _ | exact below_new (below_new2 (Below.refl _ _) _ _) _) h1
 clear h1
 go_wp2_with fail
 refine (U.out _ (H.out.keep (by first | exact B1.out | exact below_new (B1.out) _ | exact below_new2 (B1.out) _ _ | exact below_new (below_new2 (B1.out) _ _) _)).2).mono ?_
 rintro e w2 ⟨rfl,h2⟩
 have zm2:w.heap.size<w2.heap.size:=Nat.lt_of_lt_of_le (by first | exact zm1 | (rw [World.size_alloc];omega) | (simp;done) | (simp;omega)) h2.size
 have cm2_0:w2.cell? ⟨w.heap.size,0,none⟩=some (.int .u64 ad):=cell_next h2 (by first | exact zm1 | (rw [World.size_alloc];omega) | (simp;done) | (simp;omega)) (by first | exact cm1_0 | exact (cell_old zm1 _).trans cm1_0 | (simp;done))
 have cm2_1:w2.cell? ⟨w.heap.size,1,none⟩=some (.int .i64 cd):=cell_next h2 (by first | exact zm1 | (rw [World.size_alloc];omega) | (simp;done) | (simp;omega)) (by first | exact cm1_1 | exact (cell_old zm1 _).trans cm1_1 | (simp;done))
 clear zm1 cm1_0 cm1_1
 have B2:Hid (Below w.heap.size w w2):=below_then (by first | exact B1.out | exact below_new (B1.out) _ | exact below_new2 (B1.out) _ _ | exact below_new (below_new2 (B1.out) _ _) _) h2
 clear h2
 go_wp2_with fail
 refine (V.out _).mono ?_
 rintro e w3 ⟨rfl,rfl⟩
 go_wp2_with fail
 refine (R.out _).mono ?_
 rintro e w4 ⟨rfl,h4⟩
 exact ⟨rfl,rfl,below_then (by first | exact B2.out | exact below_new (B2.out) _ | exact below_new2 (B2.out) _ _ | exact below_new (below_new2 (B2.out) _ _) _) h4⟩
theorem step_info:(Tryd.prog.info? 131).map (·.size)=some 12:=by kernel_rfl
theorem results_cell1 {fn:Func} {p:Tmp} {ty:TypeId} (h:fn.results= #[.cell p ty]) (tmps:Array Value) (P:Program) (w:World) :
 (results fn tmps).run P w=((asAddr (tmps.getD p undef)).run P w).andThen fun a w₁ =>(loadVar ty a).run P w₁ :=by
 simp only [results,h]
 simp [Sem.run_bind,Result.andThen]
set_option maxHeartbeats 400000 in
theorem look_ok {rb n:Nat} {has:Int->Bool} {F:Int} {M:Int->Int} (T P L ad cd X:Int) (t0:0<=T) (t1:T<1048576) (p0:0<=P) (p1:P<512) (y0 y1 y2 y3 y4 y5 y6 y7:Bool) (y8:Int) (hk:chkG has (T*4096+P*8) 8=0) (hX:ld M (T*4096+P*8) (8:Int).toNat=X) (hx0:0<=X) (hx1:X<18446744073709551616) (hy:unp X=.agg #[.bool y0,.bool y1,.bool y2,.bool y3,.bool y4,.bool y5,.bool y6,.bool y7,.int .i64 y8]) (hp:y0=true) (hr:resV X L=false) (w:World) (h:Rd w rb has F M n) :
 Calls Tryd.prog 76 #[.pointer (some ⟨rb,0,none⟩),.int .i64 T,.int .i64 P,.int .i64 L,.agg #[.int .u64 ad,.int .i64 cd]] w fun e w'=>e=.returned (stepv (T*4096+P*8) X y0 y1 y2 y3 y4 y5 y6 y7 y8 L)/\Below w.heap.size w w':=by
 have O:=ldc (rb:=rb) (n:=n) (F:=F) (M:=M) (T*4096+P*8) X (by omega) (by omega) hk hX
 have U:Hid (∀ w:World,Tab w->Calls Tryd.prog 86 #[.int .u64 X] w fun e w'=>e=.returned (.agg #[.bool y0,.bool y1,.bool y2,.bool y3,.bool y4,.bool y5,.bool y6,.bool y7,.int .i64 y8])/\Below w.heap.size w w'):=fun w ht=>by rw [<- hy];exact unpack_any X hx0 hx1 w ht
 have H:Hid (Rd w rb has F M n):=h
 have V:Hid (∀ w:World,Calls Tryd.prog 87 #[.int .u64 X,.int .i64 L] w fun e w'=>e=.returned (.bool false)/\w'=w):=fun w=>by rw [<- hr];exact reserved_any X L hx0 hx1 w
 subst hp
 clear hr
 clear h hk hX hy hx0 hx1
 go_enter Tryd.func76,Tryd.ntmps76
 go_wp2_with fail
 refine (O.out _ (H.out.keep (by first | exact Below.refl _ _ | exact below_new (Below.refl _ _) _ | exact below_new2 (Below.refl _ _) _ _ | exact below_new (below_new2 (Below.refl _ _) _ _) _))).mono ?_
 rintro e w1 ⟨rfl,h1⟩
 have zr1:w.heap.size+1<w1.heap.size:=Nat.lt_of_lt_of_le (by first | (simp;done) | (simp;omega)) h1.size
 have or1:w1.heap[w.heap.size+1]? =some (.cells #[.int .u64 0,.int .u64 0,.bool false,.bool false,.bool false,.bool false,.bool false,.bool false,.bool false,.bool false,.int .i64 0,.int .i64 0] 131 (0,0)):=(h1.block _ (by first | (simp;done) | (simp;omega))).trans (by first | exact own1 _ _ | exact own2a _ _ _ | exact own2b _ _ _ | exact own3a _ _ _ _ | exact own3b _ _ _ _ | exact own3c _ _ _ _)
 have B1:Hid (Below w.heap.size w w1):=below_then (by first | exact Below.refl _ _ | exact below_new (Below.refl _ _) _ | exact below_new2 (Below.refl _ _) _ _ | exact below_new (below_new2 (Below.refl _ _) _ _) _) h1
 clear h1
 go_wp2_with fail
 refine (U.out _ (H.out.keep (by first | exact B1.out | exact below_new (B1.out) _ | exact below_new2 (B1.out) _ _ | exact below_new (below_new2 (B1.out) _ _) _)).2).mono ?_
 rintro e w2 ⟨rfl,h2⟩
 have zr2:w.heap.size+1<w2.heap.size:=Nat.lt_of_lt_of_le (by first | exact zr1 | (rw [World.size_alloc];omega) | (simp;done) | (simp;omega)) h2.size
 have or2:w2.heap[w.heap.size+1]? =some (.cells #[.int .u64 0,.int .u64 0,.bool false,.bool false,.bool false,.bool false,.bool false,.bool false,.bool false,.bool false,.int .i64 0,.int .i64 0] 131 (0,0)):=(h2.block _ (by first | exact zr1 | (rw [World.size_alloc];omega) | (simp;done) | (simp;omega))).trans (by first | exact or1 | exact ((Go.Joins.below_alloc1 _ _).block _ zr1).trans or1 | exact ((Go.Joins.below_alloc2 _ _ _).block _ zr1).trans or1 | exact own1 _ _ | exact own2a _ _ _ | exact own2b _ _ _ | exact own3a _ _ _ _ | exact own3b _ _ _ _ | exact own3c _ _ _ _)
 clear zr1 or1
 have B2:Hid (Below w.heap.size w w2):=below_then (by first | exact B1.out | exact below_new (B1.out) _ | exact below_new2 (B1.out) _ _ | exact below_new (below_new2 (B1.out) _ _) _) h2
 clear h2
 have HO:Hid ((w2.alloc (.cells #[.bool true,.bool y1,.bool y2,.bool y3,.bool y4,.bool y5,.bool y6,.bool y7,.int .i64 y8] 90)).heap[w.heap.size+1]? =some (.cells #[.int .u64 0,.int .u64 0,.bool false,.bool false,.bool false,.bool false,.bool false,.bool false,.bool false,.bool false,.int .i64 0,.int .i64 0] 131 (0,0))):=((Go.Joins.below_alloc1 w2 _).block _ zr2).trans or2
 have Z2:Hid (w.heap.size+1<w2.heap.size):=zr2
 have HC:Hid (((#[.int .u64 (T*4096+P*8),.int .u64 X,.bool true,.bool y1,.bool y2,.bool y3,.bool y4,.bool y5,.bool y6,.bool y7,.int .i64 y8,.int .i64 L]:Array Value).all fun x=>x.oneCell')=true):=by show ((#[.int .u64 (T*4096+P*8),.int .u64 X,.bool true,.bool y1,.bool y2,.bool y3,.bool y4,.bool y5,.bool y6,.bool y7,.int .i64 y8,.int .i64 L]:Array Value).all fun x=>x.oneCell')=true;simp [Value.oneCell']
 clear or2 zr2
 go_wp2_with fail
 refine (V.out _).mono ?_
 rintro e w3 ⟨rfl,rfl⟩
 go_wp2_with (refine wpList_store_row rfl 131 _ _ rfl (w.heap.size+1) #[.int .u64 (T*4096+P*8),.int .u64 X,.bool true,.bool y1,.bool y2,.bool y3,.bool y4,.bool y5,.bool y6,.bool y7,.int .i64 y8,.int .i64 L] rfl rfl 131 #[.int .u64 0,.int .u64 0,.bool false,.bool false,.bool false,.bool false,.bool false,.bool false,.bool false,.bool false,.int .i64 0,.int .i64 0] HO.out step_info rfl HC.out ?_)
 refine bodyPost_ret (v:=.agg #[.int .u64 (T*4096+P*8),.int .u64 X,.bool true,.bool y1,.bool y2,.bool y3,.bool y4,.bool y5,.bool y6,.bool y7,.int .i64 y8,.int .i64 L]) ?_ rfl ?_
 . rw [results_cell1 Tryd.results76]
   exact run_loadVar_row _ (w.heap.size+1) 131 131 #[.int .u64 (T*4096+P*8),.int .u64 X,.bool true,.bool y1,.bool y2,.bool y3,.bool y4,.bool y5,.bool y6,.bool y7,.int .i64 y8,.int .i64 L] (0,0) _ (setRow_heap _ _ _ _ _ _ HO.out) Tryd.underlying131 rfl step_info
 . refine ⟨rfl,?_⟩
   exact below_setRow (below_new B2.out _) (by omega) _
end Go.Proofs.YtkiclbnbnjbcaaaDoor
namespace Go.Proofs.YtkiclbnbnjbcaaaDoor
open Go.ChangeShapes Go.WideShapes Go.ChangeAt Go.RowKit Go.Maps
set_option linter.unusedSimpArgs false
set_option linter.unusedVariables false
set_option maxRecDepth 8000
def zstep:Value:=.agg #[.int .u64 0,.int .u64 0,.bool false,.bool false,.bool false,.bool false,.bool false,.bool false,.bool false,.bool false,.int .i64 0,.int .i64 0]
theorem step_info5:(Tryd.prog.info? 131).map (fun i=>(i.zero,i.size,i.bytes))=some (some zstep,12,40):=by kernel_rfl
theorem info5 {P:Program} {e:TypeId} {z:Value} {s b:Nat} (h:(P.info? e).map (fun i=>(i.zero,i.size,i.bytes))=some (some z,s,b)): ∃ i:TypeInfo,P.info? e=some i/\i.zero=some z/\i.size=s/\i.bytes=b:=by
 cases hq:P.info? e with
 | none => simp [hq] at h
 | some i =>
  simp [hq] at h
  exact ⟨i,rfl,h.1,h.2.1,h.2.2⟩
theorem make_steps: ∃ Z:Array Value,Z.size=48/\ ∀ W:World,(Instr.makeSlice 124 (.int .i64 0) (.int .i64 4)).run Tryd.prog W=.ok (.slice (some ⟨W.heap.size,0,none⟩) 0 4) (W.alloc (.cells Z 131)):=by
 obtain ⟨i,h1,h2,h3,h4⟩:=info5 step_info5
 refine ⟨_,?_,fun W=>run_make W 124 131 i zstep Tryd.underlying124 h1 h2 .i64 .i64 0 4 (by omega) (by omega) (by rw [h4];decide) (by omega)⟩
 rw [h3];simp [madeCells]
def Way (w:World) (base:Nat) (v:Value) (n:Nat) (xs:List Value):Prop:=w.ownsRow base 131 12 v n xs/\ ∃ g cap,v=.slice (some ⟨g,0,none⟩) n cap/\base<=g/\g<w.heap.size
theorem Way.keep {w w':World} {base n:Nat} {v:Value} {xs:List Value} (h:Way w base v n xs) (hb:Below w.heap.size w w'):Way w' base v n xs:=by
 obtain ⟨⟨h1,h2⟩,g,cap,hv,hg1,hg2⟩:=h
 refine ⟨⟨h1,?_⟩,g,cap,hv,hg1,Nat.lt_of_lt_of_le hg2 hb.size⟩
 rcases h2 with h2 | ⟨g',cap',cur,e1,e2,e3,e4⟩
 . exact Or.inl h2
 . have hg':g'<w.heap.size:=(Array.getElem?_eq_some_iff.1 e3).1
   exact Or.inr ⟨g',cap',cur,e1,e2,(hb.block g' hg').trans e3,e4⟩
theorem Way.made (w:World) (Z:Array Value) (hZ:Z.size=48):Way (w.alloc (.cells Z 131)) w.heap.size (.slice (some ⟨w.heap.size,0,none⟩) 0 4) 0 [] :=
 ⟨⟨rfl,Or.inr ⟨w.heap.size,4,Z,rfl,Nat.le_refl _,own1 w _,by omega,by unfold maxLen;decide,by rw [hZ],rfl⟩⟩,_,_,rfl,Nat.le_refl _,by rw [World.size_alloc];omega⟩
theorem Way.of_own {w:World} {base n:Nat} {v:Value} {xs:List Value} (h:w.ownsRow base 131 12 v n xs) (hn:0<n):Way w base v n xs:=by
 refine ⟨h,?_⟩
 obtain ⟨h1,h2 | ⟨g',cap',cur,e1,e2,e3,e4⟩⟩:=h
 . omega
 . exact ⟨g',cap',e1,e2,(Array.getElem?_eq_some_iff.1 e3).1⟩
theorem Way.own {w:World} {base n:Nat} {v:Value} {xs:List Value} (h:Way w base v n xs): ∃ g,v.ownBlock=some g/\base<=g/\g<w.heap.size:=by
 obtain ⟨_,g,cap,rfl,h1,h2⟩:=h
 exact ⟨g,rfl,h1,h2⟩
set_option maxHeartbeats 400000 in
theorem large_any (A X f L:Int) (y0 y1 y2 y3 y4 y5 y6 y7:Bool) (w:World):Calls Tryd.prog 77 #[stepv A X y0 y1 y2 y3 y4 y5 y6 y7 f L] w fun e w'=>e=.returned (.bool (L==2 && y5))/\Below w.heap.size w w':=by
 unfold stepv
 by_cases h:L=2
 . subst h
   go_enter Tryd.func77,Tryd.ntmps77
   go_wp2_with fail
   go_returns
   exact ⟨by simp,Go.Joins.below_alloc1 _ _⟩
 . have h2:(L==2)=false:=by simp [h]
   go_enter Tryd.func77,Tryd.ntmps77
   go_wp2_with fail
   go_returns
   exact ⟨by simp [h2],Go.Joins.below_alloc1 _ _⟩
end Go.Proofs.YtkiclbnbnjbcaaaDoor
