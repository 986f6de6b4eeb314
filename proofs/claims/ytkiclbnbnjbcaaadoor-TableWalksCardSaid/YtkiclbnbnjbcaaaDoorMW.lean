import Derived.Test.YtkiclbnbnjbcaaaDoorKZ
import Derived.Test.YtkiclbnbnjbcaaaDoorW7
import Derived.Defers
import Derived.Recover
import Derived.Deep.MidRow
import Derived.Test.YtkiclbnbnjbcaaaDoorW6
namespace Go.Proofs.YtkiclbnbnjbcaaaDoor
open Go.ChangeShapes Go.WideShapes Go.ChangeAt Go.RowKit Go.Maps
set_option linter.unusedSimpArgs false
set_option linter.unusedVariables false
set_option maxRecDepth 8000
set_option maxHeartbeats 400000 in
theorem catch_idle (p q r:Addr) (w:World) :
 CallsD Tryd.prog 47 #[.pointer (some p),.pointer (some q),.pointer (some r)] .returning w fun e u' w'=>e=.returned (.tuple #[])/\u'=.returning/\w'=w:=by
 refine callsD_of_wpS Tryd.func47 rfl fun c₀ cs hu=> ?_
 apply wpS_seq
 apply wpS_region
 simp [wpOpsS,go_sem,recoverD,hu,Tryd.ntmps47,Exit.thenS]
 apply wpS_seq
 apply wpS_seq
 apply wpS_region
 simp [wpOpsS,go_sem,Exit.thenS]
 refine wpS_cond (t:=true) (by simp [Act.eval,Array.replicate]) ?_
 simp only [if_true]
 refine wpS_of_wp (wp_ret ?_)
 cases c₀
 simp_all [bodyPostS,results,Tryd.results47,Exit.thenS]
theorem rep19:Array.replicate 19 undef= #[undef,undef,undef,undef,undef,undef,undef,undef,undef,undef,undef,undef,undef,undef,undef,undef,undef,undef,undef]:=rfl
theorem kept_setCell1 (K:Nat->Prop) (b:Nat) (hb: ¬ K b) (o:Nat) (v:Value) (w:World):Kept K w (w.setCell ⟨b,o,none⟩ v):=by
 have h:Below 0 w (w.setCell ⟨b,o,none⟩ v):=(Below.refl 0 w).setCell (Nat.zero_le _) v
 exact ⟨h.os,h.tape,h.output,h.size,fun k hk=>Below.heap_setCell _ _ _ _ (fun e=>hb (by rw [show b=k from e.symm];exact hk))⟩
theorem cell_setCells_ne {w:World} {b o:Nat} {vs:List Value} {x:Addr} (h:x.block≠b):(w.setCells b o vs).cell? x=w.cell? x:=World.cell?_setCells_out b vs o w x (fun hb _=>absurd hb h)
theorem kept_setCells (K:Nat->Prop) (b:Nat) (hb: ¬ K b): ∀ (vs:List Value) (o:Nat) (w:World),Kept K w (w.setCells b o vs)
 | [], _, w => Kept.refl K w
 | v :: r, o, w => by
  rw [World.setCells]
  exact Kept.trans (kept_setCell1 K b hb o v w) (kept_setCells K b hb r (o+1) _)
theorem wanted_mp {c:Prop} [Decidable c] {a b:Prop} (h:c) (ha:a):if c then a else b:=by rw [if_pos h];exact ha
theorem fault_info:(Tryd.prog.info? 58).map (·.size)=some 2:=by kernel_rfl
theorem found_info:(Tryd.prog.info? 56).map (·.size)=some 7:=by kernel_rfl
def zfound:List Value:=[.int .i64 0,.bool false,.bool false,.bool false,.bool false,.bool false,.bool false]
set_option maxHeartbeats 400000 in
theorem catch_ref (fb gb eb:Nat) (ad cd er:Int) (w:World) (tf:w.there fb 0 7) (tg:w.there gb 0 2) (ce:w.cell? ⟨eb,0,none⟩=some (.int .i64 0)) (fe:w.frozen? ⟨eb,0,none⟩=false)
 (lf:fb<w.heap.size) (lg:gb<w.heap.size) (le:eb<w.heap.size) (nfg:fb≠gb) (nfe:fb≠eb) (nge:gb≠eb) :
 CallsD Tryd.prog 47 #[.pointer (some ⟨fb,0,none⟩),.pointer (some ⟨gb,0,none⟩),.pointer (some ⟨eb,0,none⟩)] (.panicking [refv ad cd er]) w fun e u' w'=>e=.returned (.tuple #[])/\u'=.panicking [{ (refv ad cd er) with recovered:=true }] /\
  w'.rangeAt fb 0 zfound/\w'.rangeAt gb 0 [.int .u64 ad,.int .i64 cd]/\w'.rangeAt eb 0 [.int .i64 er]/\Kept (fun k=>k<w.heap.size/\k≠fb/\k≠gb/\k≠eb) w w':=by
 have heq: ∀ (x:Value) (W:World),(binOp .eql 20 (.iface 117 x) .nilIface).run Tryd.prog W=.ok (.bool false) W:=fun _ _=>by kernel_rfl
 have hta: ∀ (W:World),(Instr.typeAssert (.iface 117 (.agg #[.int .u64 ad,.int .i64 cd,.int .i64 er])) 20 117 true).run Tryd.prog W=.ok (.tuple #[.agg #[.int .u64 ad,.int .i64 cd,.int .i64 er],.bool true]) W:=fun _=>by kernel_rfl
 have TF:Hid (w.there fb 0 7):=tf
 have TG:Hid (w.there gb 0 2):=tg
 clear tf tg
 unfold refv
 refine callsD_of_wpS Tryd.func47 rfl fun c₀ cs hu=> ?_
 apply wpS_seq
 apply wpS_region
 simp [wpOpsS,go_sem,recoverD,hu,Tryd.ntmps47,Exit.thenS]
 apply wpS_seq
 apply wpS_seq
 apply wpS_region
 simp [wpOpsS,go_sem,Exit.thenS,heq]
 refine wpS_cond (t:=false) (by simp [Act.eval,Array.replicate]) ?_
 simp only [Bool.false_eq_true,if_false]
 refine wpS_of_wp (wp_skip ?_)
 simp only [rep19,Exit.thenS,List.setIfInBounds_toArray,List.set_cons_zero,List.set_cons_succ,List.append_toArray,List.cons_append,List.nil_append]
 refine wpS_of_wp ?_
 go_wp2_with fail
 refine wp_region_noPanic ?_
 refine wp_region_held_drew (S:=fun u=>u.cell? ⟨w.heap.size,0,none⟩=some (.int .u64 ad)/\u.cell? ⟨w.heap.size,1,none⟩=some (.int .i64 cd)/\u.cell? ⟨w.heap.size,2,none⟩=some (.int .i64 er)/\Hid (u.there fb 0 7)/\Hid (u.there gb 0 2)/\Hid (∃ x:Int,u.cell? ⟨eb,0,none⟩=some (.int .i64 x))/\u.frozen? ⟨eb,0,none⟩=false) (by kernel_rfl) ?_ (fun hHeld=> ?_)
 . refine ⟨by simp,by simp,by simp,World.there_alloc TF.out _,World.there_alloc TG.out _,?_,?_⟩
   . exact ⟨0,(World.cell?_alloc_lt _ _ _ le).trans ce⟩
   . exact (World.frozen?_alloc_past _ _ _ le).trans fe
 refine wpAnyH_take (i:=0) (oi:=⟨some 17,.build 56 #[],_,_,_,none⟩) (v:= ?_) rfl (by kernel_rfl) (by kernel_rfl) (by kernel_rfl) (fun _ _ _ h=>h) (Or.inl ⟨by rfl,?_⟩) (by assumption) ?_
 rotate_left
 . intro w hSw;(try dsimp only at hSw);go_simp;(try with_reducible rfl)
 try simp only [Act.put,z1,z2,z3]
 refine wpAnyH_take (i:=1) (oi:=⟨some 18,.fieldAddr 117 (.tmp 4) 0,_,_,_,none⟩) (v:= ?_) rfl (by kernel_rfl) (by kernel_rfl) (by kernel_rfl) (fun _ _ _ h=>h) (Or.inl ⟨by rfl,?_⟩) (by assumption) ?_
 rotate_left
 . intro w hSw;(try dsimp only at hSw);go_simp;(try with_reducible rfl)
 try simp only [Act.put,z1,z2,z3]
 refine wpAnyH_take (i:=2) (oi:=⟨some 19,.load 58 (.tmp 18),_,_,_,none⟩) (v:= ?_) rfl (by kernel_rfl) (by kernel_rfl) (by kernel_rfl) (fun _ _ _ h=>h) (Or.inl ⟨by rfl,?_⟩) (by assumption) ?_
 rotate_left
 . intro w hSw;(try dsimp only at hSw);go_simp;(try with_reducible rfl)
 try simp only [Act.put,z1,z2,z3]
 refine wpAnyH_take (i:=3) (oi:=⟨some 20,.fieldAddr 117 (.tmp 4) 1,_,_,_,none⟩) (v:= ?_) rfl (by kernel_rfl) (by kernel_rfl) (by kernel_rfl) (fun _ _ _ h=>h) (Or.inl ⟨by rfl,?_⟩) (by assumption) ?_
 rotate_left
 . intro w hSw;(try dsimp only at hSw);go_simp;(try with_reducible rfl)
 try simp only [Act.put,z1,z2,z3]
 refine wpAnyH_take (i:=4) (oi:=⟨some 21,.load 31 (.tmp 20),_,_,_,none⟩) (v:= ?_) rfl (by kernel_rfl) (by kernel_rfl) (by kernel_rfl) (fun _ _ _ h=>h) (Or.inl ⟨by rfl,?_⟩) (by assumption) ?_
 rotate_left
 . intro w hSw;(try dsimp only at hSw);go_simp;(try with_reducible rfl)
 try simp only [Act.put,z1,z2,z3]
 have K0:Hid (Kept (fun k=>k<w.heap.size/\k≠fb/\k≠gb/\k≠eb) w (w.alloc (.cells #[.int .u64 ad,.int .i64 cd,.int .i64 er] 117)).drew):=(kept_of_below (Go.Joins.below_alloc1 w _) (fun j hj=>hj.1)).trans ⟨rfl,rfl,rfl,Nat.le_refl _,fun _ _=>rfl⟩
 generalize (w.alloc (.cells #[.int .u64 ad,.int .i64 cd,.int .i64 er] 117)).drew=W0 at hHeld K0 |-
 refine wpAnyH_ready (rs:=[5]) (by kernel_rfl) (by simp) ?_
 refine AllReadyH.cons (o:=⟨none,.store 56 (.tmp 0) (.tmp 17),_,_,_,none⟩) rfl (fun K hK=> ?_) AllReadyH.nil
 refine wanted_mp rfl ?_
 refine wp_store_mid _ _ _ rfl fb 0 #[.int .i64 0,.bool false,.bool false,.bool false,.bool false,.bool false,.bool false] rfl rfl (hHeld.2.2.2.1).out found_info (by simp [Value.oneCell']) ?_
 refine hK.out _ _ ?_ (fun hHeld1=> ?_)
 . exact ⟨(cell_setCells_ne (by exact Nat.ne_of_gt lf)).trans hHeld.1,(cell_setCells_ne (by exact Nat.ne_of_gt lf)).trans hHeld.2.1,(cell_setCells_ne (by exact Nat.ne_of_gt lf)).trans hHeld.2.2.1,World.there_setCells hHeld.2.2.2.1.out _ _ _,World.there_setCells hHeld.2.2.2.2.1.out _ _ _,⟨hHeld.2.2.2.2.2.1.out.choose,(cell_setCells_ne (by exact Ne.symm nfe)).trans hHeld.2.2.2.2.2.1.out.choose_spec⟩,(World.frozen?_setCells _ _ _ _ _).trans hHeld.2.2.2.2.2.2⟩
 clear hK K
 try simp only [Act.put,z1,z2,z3]
 have K1:Hid (Kept (fun k=>k<w.heap.size/\k≠fb/\k≠gb/\k≠eb) w (W0.setCells fb 0 [.int .i64 0,.bool false,.bool false,.bool false,.bool false,.bool false,.bool false])):=K0.out.trans (kept_setCells _ fb (fun h=>h.2.1 rfl) _ 0 W0)
 have R1:Hid ((W0.setCells fb 0 [.int .i64 0,.bool false,.bool false,.bool false,.bool false,.bool false,.bool false]).rangeAt fb 0 [.int .i64 0,.bool false,.bool false,.bool false,.bool false,.bool false,.bool false]):=World.rangeAt_setCells_same W0 fb 0 _ hHeld.2.2.2.1.out
 simp only [List.toList_toArray] at hHeld1 |-
 generalize W0.setCells fb 0 [.int .i64 0,.bool false,.bool false,.bool false,.bool false,.bool false,.bool false]=W1 at hHeld1 K1 R1 |-
 clear hHeld K0
 refine wpAnyH_ready (rs:=[6]) (by kernel_rfl) (by simp) ?_
 refine AllReadyH.cons (o:=⟨none,.store 58 (.tmp 1) (.tmp 19),_,_,_,none⟩) rfl (fun K hK=> ?_) AllReadyH.nil
 refine wanted_mp rfl ?_
 refine wp_store_mid _ _ _ rfl gb 0 #[.int .u64 ad,.int .i64 cd] rfl rfl (hHeld1.2.2.2.2.1).out fault_info (by simp [Value.oneCell']) ?_
 refine hK.out _ _ ?_ (fun hHeld2=> ?_)
 . exact ⟨(cell_setCells_ne (by exact Nat.ne_of_gt lg)).trans hHeld1.1,(cell_setCells_ne (by exact Nat.ne_of_gt lg)).trans hHeld1.2.1,(cell_setCells_ne (by exact Nat.ne_of_gt lg)).trans hHeld1.2.2.1,World.there_setCells hHeld1.2.2.2.1.out _ _ _,World.there_setCells hHeld1.2.2.2.2.1.out _ _ _,⟨hHeld1.2.2.2.2.2.1.out.choose,(cell_setCells_ne (by exact Ne.symm nge)).trans hHeld1.2.2.2.2.2.1.out.choose_spec⟩,(World.frozen?_setCells _ _ _ _ _).trans hHeld1.2.2.2.2.2.2⟩
 clear hK K
 try simp only [Act.put,z1,z2,z3]
 have K2:Hid (Kept (fun k=>k<w.heap.size/\k≠fb/\k≠gb/\k≠eb) w (W1.setCells gb 0 [.int .u64 ad,.int .i64 cd])):=K1.out.trans (kept_setCells _ gb (fun h=>h.2.2.1 rfl) _ 0 W1)
 have R2:Hid ((W1.setCells gb 0 [.int .u64 ad,.int .i64 cd]).rangeAt gb 0 [.int .u64 ad,.int .i64 cd]):=World.rangeAt_setCells_same W1 gb 0 _ hHeld1.2.2.2.2.1.out
 have R1':Hid ((W1.setCells gb 0 [.int .u64 ad,.int .i64 cd]).rangeAt fb 0 [.int .i64 0,.bool false,.bool false,.bool false,.bool false,.bool false,.bool false]):=World.rangeAt_setCells_apart R1.out gb 0 _ (Or.inl nfg)
 simp only [List.toList_toArray] at hHeld2 |-
 generalize W1.setCells gb 0 [.int .u64 ad,.int .i64 cd]=W2 at hHeld2 K2 R2 R1' |-
 clear hHeld1 K1 R1
 obtain ⟨x2,c2⟩:=hHeld2.2.2.2.2.2.1.out
 have f2:=hHeld2.2.2.2.2.2.2
 have K3:Hid (Kept (fun k=>k<w.heap.size/\k≠fb/\k≠gb/\k≠eb) w (W2.setCell ⟨eb,0,none⟩ (.int .i64 er))):=K2.out.trans (kept_setCell1 _ eb (fun h=>h.2.2.2 rfl) 0 _ W2)
 have RA:Hid ((W2.setCell ⟨eb,0,none⟩ (.int .i64 er)).rangeAt fb 0 [.int .i64 0,.bool false,.bool false,.bool false,.bool false,.bool false,.bool false]):=World.rangeAt_setCells_apart R1'.out eb 0 [.int .i64 er] (Or.inl nfe)
 have RB:Hid ((W2.setCell ⟨eb,0,none⟩ (.int .i64 er)).rangeAt gb 0 [.int .u64 ad,.int .i64 cd]):=World.rangeAt_setCells_apart R2.out eb 0 [.int .i64 er] (Or.inl nge)
 have RC:Hid ((W2.setCell ⟨eb,0,none⟩ (.int .i64 er)).rangeAt eb 0 [.int .i64 er]):=World.rangeAt_setCells_same W2 eb 0 [.int .i64 er] (fun j hj=>by
  obtain rfl:j=0:=by simp at hj;omega
  exact ⟨by rw [Nat.zero_add,c2];rfl,f2⟩)
 have h2:=hHeld2
 clear hHeld2
 refine wpAnyH_ready (rs:=[7]) (by kernel_rfl) (by simp) ?_
 refine AllReadyH.cons (o:=⟨none,.store 31 (.tmp 2) (.tmp 21),_,_,_,none⟩) rfl (fun K hK=> ?_) AllReadyH.nil
 go_simp
 refine hK.out _ _ ?_ (fun hHeld3=> ?_)
 . exact ⟨(World.cell?_setCell_other _ _ _ _ (by intro e;injection e with e1;omega)).trans h2.1,(World.cell?_setCell_other _ _ _ _ (by intro e;injection e with e1;omega)).trans h2.2.1,(World.cell?_setCell_other _ _ _ _ (by intro e;injection e with e1;omega)).trans h2.2.2.1,World.there_setCells h2.2.2.2.1.out eb 0 [.int .i64 er],World.there_setCells h2.2.2.2.2.1.out eb 0 [.int .i64 er],⟨er,by have:=RC.out 0 _ rfl;rw [Nat.zero_add] at this;exact this⟩,(World.frozen?_setCell _ _ _ _).trans f2⟩
 clear hK K
 try simp only [Act.put,z1,z2,z3]
 refine wpAnyH_done (by kernel_rfl) ?_ _
 refine NoPanic.normal ?_
 generalize W2.setCell ⟨eb,0,none⟩ (.int .i64 er)=W3 at RA RB RC K3 |-
 clear hHeld3 h2 K2 R2 R1' c2 f2 heq hta TF TG ce fe
 simp (config:={ zetaDelta:=true }) only [bodyPostS]
 exact ⟨trivial,_,rfl,_,results_none rfl _ _ _,rfl,rfl,RA.out,RB.out,RC.out,K3.out⟩
end Go.Proofs.YtkiclbnbnjbcaaaDoor
namespace Go.Proofs.YtkiclbnbnjbcaaaDoor
open Go.ChangeShapes Go.WideShapes Go.ChangeAt Go.RowKit Go.Maps
set_option linter.unusedSimpArgs false
set_option linter.unusedVariables false
set_option maxRecDepth 8000
structure Door (w W:World):Prop where
 f:W.there (w.heap.size+1) 0 7
 g:W.there (w.heap.size+1+1) 0 2
 e:W.cell? ⟨w.heap.size+1+1+1,0,none⟩=some (.int .i64 0)
 z:W.frozen? ⟨w.heap.size+1+1+1,0,none⟩=false
 l:w.heap.size+1+1+1<W.heap.size
 b:Below w.heap.size w W
theorem there_below {W W':World} {b o n:Nat} (h:W.there b o n) (hb:Below W.heap.size W W') (l:b<W.heap.size):W'.there b o n:=fun j hj=>by
 obtain ⟨h1,h2⟩:=h j hj
 exact ⟨by rw [hb.cell (p:=⟨b,o+j,none⟩) l];exact h1,by rw [hb.frozen (p:=⟨b,o+j,none⟩) l];exact h2⟩
theorem Door.next {w W W':World} (h:Door w W) (hb:Below W.heap.size W W'):Door w W' :=
 ⟨there_below h.f hb (by have:=h.l;omega),there_below h.g hb (by have:=h.l;omega),(hb.cell (p:=⟨w.heap.size+1+1+1,0,none⟩) h.l).trans h.e,(hb.frozen (p:=⟨w.heap.size+1+1+1,0,none⟩) h.l).trans h.z,Nat.lt_of_lt_of_le h.l hb.size,below_then h.b hb⟩
theorem there_of_block {w:World} {b:Nat} {C:Array Value} {t:TypeId} (h:w.heap[b]? =some (.cells C t (0,0))):w.there b 0 C.size:=fun j hj=>by
 rw [Nat.zero_add]
 exact ⟨by rw [Go.Joins.cell_of_block h j,Array.getElem?_eq_getElem hj];rfl,Go.Joins.unfrozen_of_block h j⟩
theorem Door.made (w:World) (a:Obj):Door w ((((w.alloc a).alloc (.cells #[.int .i64 0,.bool false,.bool false,.bool false,.bool false,.bool false,.bool false] 56)).alloc (.cells #[.int .u64 0,.int .i64 0] 58)).alloc (.cells #[.int .i64 0] 31)):=by
 have h1:=own3a (w.alloc a) (.cells #[.int .i64 0,.bool false,.bool false,.bool false,.bool false,.bool false,.bool false] 56) (.cells #[.int .u64 0,.int .i64 0] 58) (.cells #[.int .i64 0] 31)
 have h2:=own3b (w.alloc a) (.cells #[.int .i64 0,.bool false,.bool false,.bool false,.bool false,.bool false,.bool false] 56) (.cells #[.int .u64 0,.int .i64 0] 58) (.cells #[.int .i64 0] 31)
 have h3:=own3c (w.alloc a) (.cells #[.int .i64 0,.bool false,.bool false,.bool false,.bool false,.bool false,.bool false] 56) (.cells #[.int .u64 0,.int .i64 0] 58) (.cells #[.int .i64 0] 31)
 rw [World.size_alloc] at h1 h2 h3
 exact ⟨there_of_block h1,there_of_block h2,Go.Joins.cell_of_block h3 0,Go.Joins.unfrozen_of_block h3 0,by simp,(((((Below.refl _ _).alloc (by simp) _).alloc (by simp;try omega) _).alloc (by simp;try omega) _).alloc (by simp;try omega) _)⟩
theorem range_cell {w:World} {b:Nat} {v:Value} (h:w.rangeAt b 0 [v]):w.cell? ⟨b,0,none⟩=some v:=by have:=h 0 v rfl;rwa [Nat.zero_add] at this
theorem load_errno (W:World) (b:Nat) (er:Int) (h:W.cell? ⟨b,0,none⟩=some (.int .i64 er)):(loadVar 31 ⟨b,0,none⟩).run Tryd.prog W=.ok (.int .i64 er) W:=by
 simp [loadVar,go_sem,h]
theorem results_cell3 {fn:Func} {p q r:Tmp} {t1 t2 t3:TypeId} (h:fn.results= #[.cell p t1,.cell q t2,.cell r t3]) (tmps:Array Value) (P:Program) (w:World) (a b c:Addr) (x y z:Value)
 (ha:tmps.getD p undef=.pointer (some a)) (hb:tmps.getD q undef=.pointer (some b)) (hc:tmps.getD r undef=.pointer (some c))
 (hx:(loadVar t1 a).run P w=.ok x w) (hy:(loadVar t2 b).run P w=.ok y w) (hz:(loadVar t3 c).run P w=.ok z w) :
 (results fn tmps).run P w=.ok (.tuple #[x,y,z]) w:=by
 simp only [results,h]
 have e1: ∀ W:World,(asAddr (Value.pointer (some a))).run P W=.ok a W:=fun _=>rfl
 have e2: ∀ W:World,(asAddr (Value.pointer (some b))).run P W=.ok b W:=fun _=>rfl
 have e3: ∀ W:World,(asAddr (Value.pointer (some c))).run P W=.ok c W:=fun _=>rfl
 simp at ha hb hc
 simp [Sem.run_bind,Result.andThen,ha,hb,hc,e1,e2,e3,hx,hy,hz]
set_option maxHeartbeats 400000 in
theorem walk_door (w W:World) (ad cd er:Int) (tmps:Array Value) (h:Door w W)
 (h8:tmps.getD 8 undef=.pointer (some ⟨w.heap.size+1,0,none⟩)) (h9:tmps.getD 9 undef=.pointer (some ⟨w.heap.size+1+1,0,none⟩)) (h10:tmps.getD 10 undef=.pointer (some ⟨w.heap.size+1+1+1,0,none⟩)) :
 bodyPostD Tryd.prog Tryd.f22 (fun e w'=>e=.returned (.tuple #[.agg zfound.toArray,.agg #[.int .u64 ad,.int .i64 cd],.int .i64 er])/\Below w.heap.size w w') (Exit.panic [refv ad cd er])
  { tmps:=tmps,defers:=[{ target:=Target.fn (Fn.func 47) #[.pointer (some ⟨w.heap.size+1,0,none⟩),.pointer (some ⟨w.heap.size+1+1,0,none⟩),.pointer (some ⟨w.heap.size+1+1+1,0,none⟩)],args:= #[] }] } W:=by
 refine leaves_cons (f:=47) (args:= #[.pointer (some ⟨w.heap.size+1,0,none⟩),.pointer (some ⟨w.heap.size+1+1,0,none⟩),.pointer (some ⟨w.heap.size+1+1+1,0,none⟩)]) (by simp) (by simp [go_sem]) ?_
 refine (catch_ref (w.heap.size+1) (w.heap.size+1+1) (w.heap.size+1+1+1) ad cd er W h.f h.g h.e h.z (by have:=h.l;omega) (by have:=h.l;omega) h.l (by omega) (by omega) (by omega)).mono ?_
 rintro e u' w'' ⟨rfl,rfl,r1,r2,r3,hk⟩
 have hb:Below w.heap.size w w'':=h.b.trans (hk.below (fun j hj=>⟨Nat.lt_of_lt_of_le hj h.b.size,by omega,by omega,by omega⟩))
 have hr:(results Tryd.f22 tmps).run Tryd.prog w''=.ok (.tuple #[.agg zfound.toArray,.agg #[.int .u64 ad,.int .i64 cd],.int .i64 er]) w'' :=
  results_cell3 Tryd.results22 tmps Tryd.prog w'' _ _ _ _ _ _ h8 h9 h10 (run_loadVar_mid w'' _ 0 56 zfound _ r1 Tryd.underlying56 rfl found_info) (run_loadVar_mid w'' _ 0 58 _ _ r2 Tryd.underlying58 rfl fault_info) (load_errno w'' _ er (range_cell r3))
 exact ⟨_,hr,rfl,hb⟩
set_option maxHeartbeats 1000000 in
theorem walk_arg (rb:Nat) (root addr:Int) (x u f:Bool) (hc:Hid (∀ w:World,Calls Tryd.prog 23 #[.int .u64 addr] w fun e w'=>e=.returned (.bool false)/\w'=w)) (w:World) :
 Calls Tryd.prog 22 #[.pointer (some ⟨rb,0,none⟩),.int .i64 root,.int .u64 addr,.agg #[.bool x,.bool u,.bool f]] w fun e w'=>e=.returned (.tuple #[.agg zfound.toArray,.agg #[.int .u64 0,.int .i64 0],.int .i64 1])/\Below w.heap.size w w':=by
 have hmf: ∀ (fn:Fn) (first cap:Array Value) (w:World),(Instr.makeFunc fn first cap).run Tryd.prog w=.ok (.func fn first cap) w:=fun _ _ _ _=>rfl
 go_enter_defers Tryd.func22,Tryd.ntmps22
 go_wp2_with fail
 refine (hc.out _).mono ?_
 rintro e w1 ⟨rfl,rfl⟩
 go_wp2_with fail
 exact walk_door w _ 0 0 1 _ (Door.made w _) rfl rfl rfl
set_option maxHeartbeats 1000000 in
theorem walk_bus (rb:Nat) (root addr:Int) (x u f:Bool) (hc:Hid (∀ w:World,Calls Tryd.prog 23 #[.int .u64 addr] w fun e w'=>e=.returned (.bool true)/\w'=w)) (w:World)
 (hh:Hid (∀ W:World,Below w.heap.size w W->Calls Tryd.prog 48 #[.pointer (some ⟨rb,0,none⟩),.int .i64 root] W fun e w'=>e=.returned (.bool false)/\Below W.heap.size W w')) :
 Calls Tryd.prog 22 #[.pointer (some ⟨rb,0,none⟩),.int .i64 root,.int .u64 addr,.agg #[.bool x,.bool u,.bool f]] w fun e w'=>e=.returned (.tuple #[.agg zfound.toArray,.agg #[.int .u64 0,.int .i64 0],.int .i64 2])/\Below w.heap.size w w':=by
 have hmf: ∀ (fn:Fn) (first cap:Array Value) (w:World),(Instr.makeFunc fn first cap).run Tryd.prog w=.ok (.func fn first cap) w:=fun _ _ _ _=>rfl
 go_enter_defers Tryd.func22,Tryd.ntmps22
 go_wp2_with fail
 refine (hc.out _).mono ?_
 rintro e w1 ⟨rfl,rfl⟩
 go_wp2_with fail
 refine (hh.out _ (Door.made w _).b).mono ?_
 rintro e w2 ⟨rfl,hb⟩
 have D:Hid (Door w w2):=(Door.made w _).next hb
 clear hb
 go_wp2_with fail
 exact walk_door w _ 0 0 2 _ D.out rfl rfl rfl
end Go.Proofs.YtkiclbnbnjbcaaaDoor
namespace Go.Proofs.YtkiclbnbnjbcaaaDoor
open Go.ChangeShapes Go.WideShapes Go.ChangeAt Go.RowKit Go.Maps
set_option linter.unusedSimpArgs false
set_option linter.unusedVariables false
set_option maxRecDepth 8000
theorem box4 (w:World) (a b c d:Obj):((((w.alloc a).alloc b).alloc c).alloc d).heap[w.heap.size]? =some a :=
 ((Go.Joins.below_alloc1 (((w.alloc a).alloc b).alloc c) d).block _ (by simp;omega)).trans (own3a w a b c)
theorem sz4 (w:World) (a b c d:Obj):w.heap.size<((((w.alloc a).alloc b).alloc c).alloc d).heap.size:=by simp;omega
theorem szA (w:World) (a:Obj):w.heap.size<(w.alloc a).heap.size:=by simp
theorem old1 {w:World} {b:Nat} (h:b<w.heap.size) (a:Obj):b<(w.alloc a).heap.size:=by simp;omega
theorem carry1 {w w':World} {o:Obj} {b i:Nat} {v:Value} (hb:Below (w.alloc o).heap.size (w.alloc o) w') (l:b<w.heap.size) (h:w.cell? ⟨b,i,none⟩=some v):w'.cell? ⟨b,i,none⟩=some v :=
 (hb.cell (p:=⟨b,i,none⟩) (old1 l o)).trans ((World.cell?_alloc_lt _ _ _ l).trans h)
theorem carry0 {w w':World} {b i:Nat} {v:Value} (hb:Below w.heap.size w w') (l:b<w.heap.size) (h:w.cell? ⟨b,i,none⟩=some v):w'.cell? ⟨b,i,none⟩=some v :=
 (hb.cell (p:=⟨b,i,none⟩) l).trans h
theorem carryN {w w':World} {C:Array Value} {t:TypeId} {i:Nat} (hb:Below (w.alloc (.cells C t)).heap.size (w.alloc (.cells C t)) w'):w'.cell? ⟨w.heap.size,i,none⟩=C[i]? :=
 (hb.cell (p:=⟨w.heap.size,i,none⟩) (szA w _)).trans (Go.Joins.cell_of_block (own1 w _) i)
set_option maxHeartbeats 1000000 in
theorem walk_panic {rb:Nat} (root addr p0 p1 p2 p3 po cd:Int) (x u f:Bool)
 (hc:Hid (∀ w:World,Calls Tryd.prog 23 #[.int .u64 addr] w fun e w'=>e=.returned (.bool true)/\w'=w))
 (sp:Hid (∀ w:World,Calls Tryd.prog 49 #[.int .u64 addr] w fun e w'=>e=.returned (.tuple #[.agg #[.int .i64 p0,.int .i64 p1,.int .i64 p2,.int .i64 p3],.int .i64 po])/\Below w.heap.size w w'))
 (co:Hid (∀ w:World,Calls Tryd.prog 50 #[.agg #[.bool x,.bool u,.bool f]] w fun e w'=>e=.returned (.int .i64 cd)/\Below w.heap.size w w')) (w:World)
 (hh:Hid (∀ W:World,Below w.heap.size w W->Calls Tryd.prog 48 #[.pointer (some ⟨rb,0,none⟩),.int .i64 root] W fun e w'=>e=.returned (.bool true)/\Below W.heap.size W w'))
 (ad' cd' er':Int) (fo:Hid (∀ W:World,Below w.heap.size w W->Calls Tryd.prog 51 #[.pointer (some ⟨rb,0,none⟩),.int .i64 root,.agg #[.int .i64 p0,.int .i64 p1,.int .i64 p2,.int .i64 p3],.agg #[.int .u64 addr,.int .i64 cd]] W fun e w'=>e=.panicked [refv ad' cd' er']/\Below W.heap.size W w')) :
 Calls Tryd.prog 22 #[.pointer (some ⟨rb,0,none⟩),.int .i64 root,.int .u64 addr,.agg #[.bool x,.bool u,.bool f]] w fun e w'=>e=.returned (.tuple #[.agg zfound.toArray,.agg #[.int .u64 ad',.int .i64 cd'],.int .i64 er'])/\Below w.heap.size w w':=by
 have hmf: ∀ (fn:Fn) (first cap:Array Value) (w:World),(Instr.makeFunc fn first cap).run Tryd.prog w=.ok (.func fn first cap) w:=fun _ _ _ _=>rfl
 go_enter_defers Tryd.func22,Tryd.ntmps22
 go_wp2_with fail
 refine (hc.out _).mono ?_
 rintro e w1 ⟨rfl,rfl⟩
 go_wp2_with fail
 refine (hh.out _ (Door.made w _).b).mono ?_
 rintro e w2 ⟨rfl,hb⟩
 have D2:Hid (Door w w2):=(Door.made w _).next hb
 have a2_0:w2.cell? ⟨w.heap.size,0,none⟩=some (.bool x):=carry0 hb (sz4 w _ _ _ _) (Go.Joins.cell_of_block (box4 w _ _ _ _) 0)
 have a2_1:w2.cell? ⟨w.heap.size,1,none⟩=some (.bool u):=carry0 hb (sz4 w _ _ _ _) (Go.Joins.cell_of_block (box4 w _ _ _ _) 1)
 have a2_2:w2.cell? ⟨w.heap.size,2,none⟩=some (.bool f):=carry0 hb (sz4 w _ _ _ _) (Go.Joins.cell_of_block (box4 w _ _ _ _) 2)
 have za2:w.heap.size<w2.heap.size:=Nat.lt_of_lt_of_le (sz4 w _ _ _ _) hb.size
 clear hb
 go_wp2_with fail
 refine (sp.out _).mono ?_
 rintro e w3 ⟨rfl,hb⟩
 have D3:Hid (Door w w3):=D2.out.next hb
 have a3_0:w3.cell? ⟨w.heap.size,0,none⟩=some (.bool x):=carry0 hb za2 a2_0
 have a3_1:w3.cell? ⟨w.heap.size,1,none⟩=some (.bool u):=carry0 hb za2 a2_1
 have a3_2:w3.cell? ⟨w.heap.size,2,none⟩=some (.bool f):=carry0 hb za2 a2_2
 have za3:w.heap.size<w3.heap.size:=Nat.lt_of_lt_of_le za2 hb.size
 clear hb D2 a2_0 a2_1 a2_2 za2
 go_wp2_with fail
 refine (co.out _).mono ?_
 rintro e w4 ⟨rfl,hb⟩
 have D4:Hid (Door w w4):=(D3.out.next (Go.Joins.below_alloc1 _ _)).next hb
 have a4_0:w4.cell? ⟨w.heap.size,0,none⟩=some (.bool x):=carry1 hb za3 a3_0
 have a4_1:w4.cell? ⟨w.heap.size,1,none⟩=some (.bool u):=carry1 hb za3 a3_1
 have a4_2:w4.cell? ⟨w.heap.size,2,none⟩=some (.bool f):=carry1 hb za3 a3_2
 have q4_0:w4.cell? ⟨w3.heap.size,0,none⟩=some (.int .i64 p0):=carryN hb
 have q4_1:w4.cell? ⟨w3.heap.size,1,none⟩=some (.int .i64 p1):=carryN hb
 have q4_2:w4.cell? ⟨w3.heap.size,2,none⟩=some (.int .i64 p2):=carryN hb
 have q4_3:w4.cell? ⟨w3.heap.size,3,none⟩=some (.int .i64 p3):=carryN hb
 have za4:w.heap.size<w4.heap.size:=Nat.lt_of_lt_of_le (old1 za3 _) hb.size
 have zq4:w3.heap.size<w4.heap.size:=Nat.lt_of_lt_of_le (szA _ _) hb.size
 clear hb D3 a3_0 a3_1 a3_2
 go_wp2_with fail
 refine (fo.out _ (D4.out.next (Go.Joins.below_alloc1 _ _)).b).mono ?_
 rintro e w5 ⟨rfl,hb⟩
 exact walk_door w _ ad' cd' er' _ ((D4.out.next (Go.Joins.below_alloc1 _ _)).next hb) rfl rfl rfl
set_option maxHeartbeats 1000000 in
theorem walk_refused {rb:Nat} (root addr p0 p1 p2 p3 po cd:Int) (x u f:Bool)
 (hc:Hid (∀ w:World,Calls Tryd.prog 23 #[.int .u64 addr] w fun e w'=>e=.returned (.bool true)/\w'=w))
 (sp:Hid (∀ w:World,Calls Tryd.prog 49 #[.int .u64 addr] w fun e w'=>e=.returned (.tuple #[.agg #[.int .i64 p0,.int .i64 p1,.int .i64 p2,.int .i64 p3],.int .i64 po])/\Below w.heap.size w w'))
 (co:Hid (∀ w:World,Calls Tryd.prog 50 #[.agg #[.bool x,.bool u,.bool f]] w fun e w'=>e=.returned (.int .i64 cd)/\Below w.heap.size w w')) (w:World)
 (hh:Hid (∀ W:World,Below w.heap.size w W->Calls Tryd.prog 48 #[.pointer (some ⟨rb,0,none⟩),.int .i64 root] W fun e w'=>e=.returned (.bool true)/\Below W.heap.size W w'))
 (n:Nat) (xs:List Value) (pw pu px:Bool) (fo:Hid (∀ W:World,Below w.heap.size w W->Calls Tryd.prog 51 #[.pointer (some ⟨rb,0,none⟩),.int .i64 root,.agg #[.int .i64 p0,.int .i64 p1,.int .i64 p2,.int .i64 p3],.agg #[.int .u64 addr,.int .i64 cd]] W fun e w'=> ∃ v,e=.returned v/\Way w' (W.heap.size+2) v n xs/\Below W.heap.size W w'))
 (cm:Hid (∀ (W:World) (base:Nat) (v:Value),Way W base v n xs->Calls Tryd.prog 52 #[v] W fun e w'=>e=.returned (.agg #[.bool pw,.bool pu,.bool px])/\Below W.heap.size W w'))
 (ma:Hid (∀ W:World,Calls Tryd.prog 25 #[.agg #[.bool pw,.bool pu,.bool px],.agg #[.bool x,.bool u,.bool f]] W fun e w'=>e=.returned (.bool false)/\Below W.heap.size W w'))
 (c1:Int) (re:Hid (∀ W:World,Calls Tryd.prog 53 #[.agg #[.int .u64 addr,.int .i64 cd],.int .i64 1] W fun e w'=>e=.panicked [refv addr c1 9]/\Below W.heap.size W w')) :
 Calls Tryd.prog 22 #[.pointer (some ⟨rb,0,none⟩),.int .i64 root,.int .u64 addr,.agg #[.bool x,.bool u,.bool f]] w fun e w'=>e=.returned (.tuple #[.agg zfound.toArray,.agg #[.int .u64 addr,.int .i64 c1],.int .i64 9])/\Below w.heap.size w w':=by
 have hmf: ∀ (fn:Fn) (first cap:Array Value) (w:World),(Instr.makeFunc fn first cap).run Tryd.prog w=.ok (.func fn first cap) w:=fun _ _ _ _=>rfl
 go_enter_defers Tryd.func22,Tryd.ntmps22
 go_wp2_with fail
 refine (hc.out _).mono ?_
 rintro e w1 ⟨rfl,rfl⟩
 go_wp2_with fail
 refine (hh.out _ (Door.made w _).b).mono ?_
 rintro e w2 ⟨rfl,hb⟩
 have D2:Hid (Door w w2):=(Door.made w _).next hb
 have a2_0:w2.cell? ⟨w.heap.size,0,none⟩=some (.bool x):=carry0 hb (sz4 w _ _ _ _) (Go.Joins.cell_of_block (box4 w _ _ _ _) 0)
 have a2_1:w2.cell? ⟨w.heap.size,1,none⟩=some (.bool u):=carry0 hb (sz4 w _ _ _ _) (Go.Joins.cell_of_block (box4 w _ _ _ _) 1)
 have a2_2:w2.cell? ⟨w.heap.size,2,none⟩=some (.bool f):=carry0 hb (sz4 w _ _ _ _) (Go.Joins.cell_of_block (box4 w _ _ _ _) 2)
 have za2:w.heap.size<w2.heap.size:=Nat.lt_of_lt_of_le (sz4 w _ _ _ _) hb.size
 clear hb
 go_wp2_with fail
 refine (sp.out _).mono ?_
 rintro e w3 ⟨rfl,hb⟩
 have D3:Hid (Door w w3):=D2.out.next hb
 have a3_0:w3.cell? ⟨w.heap.size,0,none⟩=some (.bool x):=carry0 hb za2 a2_0
 have a3_1:w3.cell? ⟨w.heap.size,1,none⟩=some (.bool u):=carry0 hb za2 a2_1
 have a3_2:w3.cell? ⟨w.heap.size,2,none⟩=some (.bool f):=carry0 hb za2 a2_2
 have za3:w.heap.size<w3.heap.size:=Nat.lt_of_lt_of_le za2 hb.size
 clear hb D2 a2_0 a2_1 a2_2 za2
 go_wp2_with fail
 refine (co.out _).mono ?_
 rintro e w4 ⟨rfl,hb⟩
 have D4:Hid (Door w w4):=(D3.out.next (Go.Joins.below_alloc1 _ _)).next hb
 have a4_0:w4.cell? ⟨w.heap.size,0,none⟩=some (.bool x):=carry1 hb za3 a3_0
 have a4_1:w4.cell? ⟨w.heap.size,1,none⟩=some (.bool u):=carry1 hb za3 a3_1
 have a4_2:w4.cell? ⟨w.heap.size,2,none⟩=some (.bool f):=carry1 hb za3 a3_2
 have q4_0:w4.cell? ⟨w3.heap.size,0,none⟩=some (.int .i64 p0):=carryN hb
 have q4_1:w4.cell? ⟨w3.heap.size,1,none⟩=some (.int .i64 p1):=carryN hb
 have q4_2:w4.cell? ⟨w3.heap.size,2,none⟩=some (.int .i64 p2):=carryN hb
 have q4_3:w4.cell? ⟨w3.heap.size,3,none⟩=some (.int .i64 p3):=carryN hb
 have za4:w.heap.size<w4.heap.size:=Nat.lt_of_lt_of_le (old1 za3 _) hb.size
 have zq4:w3.heap.size<w4.heap.size:=Nat.lt_of_lt_of_le (szA _ _) hb.size
 clear hb D3 a3_0 a3_1 a3_2
 go_wp2_with fail
 refine (fo.out _ (D4.out.next (Go.Joins.below_alloc1 _ _)).b).mono ?_
 rintro e w5 ⟨v,rfl,hway,hb⟩
 have D5:Hid (Door w w5):=(D4.out.next (Go.Joins.below_alloc1 _ _)).next hb
 have WY5:Hid (Way w5 (w4.heap.size+1+2) v n xs):=by have:=hway;rwa [World.size_alloc] at this
 have a5_0:w5.cell? ⟨w.heap.size,0,none⟩=some (.bool x):=carry1 hb za4 a4_0
 have a5_1:w5.cell? ⟨w.heap.size,1,none⟩=some (.bool u):=carry1 hb za4 a4_1
 have a5_2:w5.cell? ⟨w.heap.size,2,none⟩=some (.bool f):=carry1 hb za4 a4_2
 have q5_0:w5.cell? ⟨w3.heap.size,0,none⟩=some (.int .i64 p0):=carry1 hb zq4 q4_0
 have q5_1:w5.cell? ⟨w3.heap.size,1,none⟩=some (.int .i64 p1):=carry1 hb zq4 q4_1
 have q5_2:w5.cell? ⟨w3.heap.size,2,none⟩=some (.int .i64 p2):=carry1 hb zq4 q4_2
 have q5_3:w5.cell? ⟨w3.heap.size,3,none⟩=some (.int .i64 p3):=carry1 hb zq4 q4_3
 have m5_0:w5.cell? ⟨w4.heap.size,0,none⟩=some (.int .u64 addr):=carryN hb
 have m5_1:w5.cell? ⟨w4.heap.size,1,none⟩=some (.int .i64 cd):=carryN hb
 have za5:w.heap.size<w5.heap.size:=Nat.lt_of_lt_of_le (old1 za4 _) hb.size
 have zq5:w3.heap.size<w5.heap.size:=Nat.lt_of_lt_of_le (old1 zq4 _) hb.size
 have zm5:w4.heap.size<w5.heap.size:=Nat.lt_of_lt_of_le (szA _ _) hb.size
 clear hb hway D4 a4_0 a4_1 a4_2 q4_0 q4_1 q4_2 q4_3 za4 zq4
 go_wp2_with fail
 refine (cm.out _ _ _ WY5.out).mono ?_
 rintro e w6 ⟨rfl,hb⟩
 have D6:Hid (Door w w6):=D5.out.next hb
 have WY6:Hid (Way w6 (w4.heap.size+1+2) v n xs):=WY5.out.keep hb
 have a6_0:w6.cell? ⟨w.heap.size,0,none⟩=some (.bool x):=carry0 hb za5 a5_0
 have a6_1:w6.cell? ⟨w.heap.size,1,none⟩=some (.bool u):=carry0 hb za5 a5_1
 have a6_2:w6.cell? ⟨w.heap.size,2,none⟩=some (.bool f):=carry0 hb za5 a5_2
 have q6_0:w6.cell? ⟨w3.heap.size,0,none⟩=some (.int .i64 p0):=carry0 hb zq5 q5_0
 have q6_1:w6.cell? ⟨w3.heap.size,1,none⟩=some (.int .i64 p1):=carry0 hb zq5 q5_1
 have q6_2:w6.cell? ⟨w3.heap.size,2,none⟩=some (.int .i64 p2):=carry0 hb zq5 q5_2
 have q6_3:w6.cell? ⟨w3.heap.size,3,none⟩=some (.int .i64 p3):=carry0 hb zq5 q5_3
 have m6_0:w6.cell? ⟨w4.heap.size,0,none⟩=some (.int .u64 addr):=carry0 hb zm5 m5_0
 have m6_1:w6.cell? ⟨w4.heap.size,1,none⟩=some (.int .i64 cd):=carry0 hb zm5 m5_1
 have za6:w.heap.size<w6.heap.size:=Nat.lt_of_lt_of_le za5 hb.size
 have zq6:w3.heap.size<w6.heap.size:=Nat.lt_of_lt_of_le zq5 hb.size
 have zm6:w4.heap.size<w6.heap.size:=Nat.lt_of_lt_of_le zm5 hb.size
 clear hb D5 WY5 a5_0 a5_1 a5_2 q5_0 q5_1 q5_2 q5_3 m5_0 m5_1 za5 zq5 zm5
 go_wp2_with fail
 refine (ma.out _).mono ?_
 rintro e w7 ⟨rfl,hb⟩
 have D7:Hid (Door w w7):=(D6.out.next (Go.Joins.below_alloc1 _ _)).next hb
 have WY7:Hid (Way w7 (w4.heap.size+1+2) v n xs):=(WY6.out.keep (Go.Joins.below_alloc1 _ _)).keep hb
 have a7_0:w7.cell? ⟨w.heap.size,0,none⟩=some (.bool x):=carry1 hb za6 a6_0
 have a7_1:w7.cell? ⟨w.heap.size,1,none⟩=some (.bool u):=carry1 hb za6 a6_1
 have a7_2:w7.cell? ⟨w.heap.size,2,none⟩=some (.bool f):=carry1 hb za6 a6_2
 have q7_0:w7.cell? ⟨w3.heap.size,0,none⟩=some (.int .i64 p0):=carry1 hb zq6 q6_0
 have q7_1:w7.cell? ⟨w3.heap.size,1,none⟩=some (.int .i64 p1):=carry1 hb zq6 q6_1
 have q7_2:w7.cell? ⟨w3.heap.size,2,none⟩=some (.int .i64 p2):=carry1 hb zq6 q6_2
 have q7_3:w7.cell? ⟨w3.heap.size,3,none⟩=some (.int .i64 p3):=carry1 hb zq6 q6_3
 have m7_0:w7.cell? ⟨w4.heap.size,0,none⟩=some (.int .u64 addr):=carry1 hb zm6 m6_0
 have m7_1:w7.cell? ⟨w4.heap.size,1,none⟩=some (.int .i64 cd):=carry1 hb zm6 m6_1
 have r7_0:w7.cell? ⟨w6.heap.size,0,none⟩=some (.bool pw):=carryN hb
 have r7_1:w7.cell? ⟨w6.heap.size,1,none⟩=some (.bool pu):=carryN hb
 have r7_2:w7.cell? ⟨w6.heap.size,2,none⟩=some (.bool px):=carryN hb
 have za7:w.heap.size<w7.heap.size:=Nat.lt_of_lt_of_le (old1 za6 _) hb.size
 have zq7:w3.heap.size<w7.heap.size:=Nat.lt_of_lt_of_le (old1 zq6 _) hb.size
 have zm7:w4.heap.size<w7.heap.size:=Nat.lt_of_lt_of_le (old1 zm6 _) hb.size
 have zr7:w6.heap.size<w7.heap.size:=Nat.lt_of_lt_of_le (szA _ _) hb.size
 clear hb D6 WY6 a6_0 a6_1 a6_2 q6_0 q6_1 q6_2 q6_3 m6_0 m6_1 za6 zq6 zm6
 go_wp2_with fail
 refine (re.out _).mono ?_
 rintro e w8 ⟨rfl,hb⟩
 exact walk_door w _ addr c1 9 _ (D7.out.next hb) rfl rfl rfl
end Go.Proofs.YtkiclbnbnjbcaaaDoor
