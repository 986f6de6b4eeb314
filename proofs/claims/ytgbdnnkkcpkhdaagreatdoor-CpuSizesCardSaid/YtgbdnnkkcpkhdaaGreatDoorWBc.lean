import Derived.Test.YtgbdnnkkcpkhdaaGreatDoorKZc
import Derived.Test.YtgbdnnkkcpkhdaaGreatDoorWAc
import Derived.Deep.RegionHeld3
import Derived.Deep.DrawnRows
import Derived.Defers
import Derived.Recover
import Derived.Deep.MidRow
import Derived.LoopTactic
import Derived.Test.YtgbdnnkkcpkhdaaGreatDoorMPc
set_option linter.unusedSimpArgs false
set_option linter.unusedVariables false
set_option maxRecDepth 8000
set_option maxHeartbeats 4000000
open Go.ChangeShapes Go.WideShapes Go.ChangeAt Go.RowKit Go.Maps
namespace Go.Proofs.YtgbdnnkkcpkhdaaGreatDoor
theorem large_at (A X f L:Int) (y0 y1 y2 y3 y4 y5 y6 y7:Bool) (w:World):Calls Tryz.prog 99 #[stepv A X y0 y1 y2 y3 y4 y5 y6 y7 f L] w fun e w'=>e=.returned (.bool (L==2 && y5))/\w'=w.alloc (.cells (sb1 A X y0 y1 y2 y3 y4 y5 y6 y7 f L) 167):=by
 unfold stepv
 by_cases h:L=2
 . subst h
   go_enter Tryz.func99,Tryz.ntmps99
   go_wp2_with fail
   go_returns
   exact ⟨by simp,rfl⟩
 . have h2:(L==2)=false:=by simp [h]
   go_enter Tryz.func99,Tryz.ntmps99
   go_wp2_with fail
   go_returns
   exact ⟨by simp [h2],rfl⟩
theorem tell_small_f (A X f L inside:Int) (y0 y1 y2 y3 y5 y6 y7 pw pu px wr:Bool) (hL:(L==2 && y5)=false) (w:World) :
 Calls Tryz.prog 69 #[.agg (sb1 A X y0 y1 y2 y3 false y5 y6 y7 f L),.agg (sn pw pu px),.int .i64 inside,.bool wr] w (re (.agg (sd1 f pw pu px y6 false wr)) w):=by
 have LA:Hid (∀ w:World,Calls Tryz.prog 99 #[.agg (sb1 A X y0 y1 y2 y3 false y5 y6 y7 f L)] w fun e w'=>e=.returned (.bool false)/\w'=w.alloc (.cells (sb1 A X y0 y1 y2 y3 false y5 y6 y7 f L) 167)):=fun w=>by
  have:=large_at A X f L y0 y1 y2 y3 false y5 y6 y7 w
  rw [hL] at this;exact this
 clear hL
 go_enter Tryz.func69,Tryz.ntmps69
 go_wp2_with fail
 go_region_held3 (fun u=>u.cell? ⟨w.heap.size,0,none⟩=some (.int .u64 A)/\u.cell? ⟨w.heap.size,1,none⟩=some (.int .u64 X)/\u.cell? ⟨w.heap.size,2,none⟩=some (.bool y0)/\u.cell? ⟨w.heap.size,3,none⟩=some (.bool y1)/\u.cell? ⟨w.heap.size,4,none⟩=some (.bool y2)/\u.cell? ⟨w.heap.size,5,none⟩=some (.bool y3)/\u.cell? ⟨w.heap.size,6,none⟩=some (.bool false)/\u.cell? ⟨w.heap.size,7,none⟩=some (.bool y5)/\u.cell? ⟨w.heap.size,8,none⟩=some (.bool y6)/\u.cell? ⟨w.heap.size,9,none⟩=some (.bool y7)/\u.cell? ⟨w.heap.size,10,none⟩=some (.int .i64 f)/\u.cell? ⟨w.heap.size,11,none⟩=some (.int .i64 L)/\u.cell? ⟨w.heap.size+1,0,none⟩=some (.bool pw)/\u.cell? ⟨w.heap.size+1,1,none⟩=some (.bool pu)/\u.cell? ⟨w.heap.size+1,2,none⟩=some (.bool px)) ((go_split_ands;(repeat' apply And.intro) <;> first | (with_reducible assumption) | (simp [*];done) | (simp (disch:=(simp;try omega)) [World.cell?_alloc_lt];done)))
  (first | (go_at_call 99;refine (LA.out _).mono ?_;rintro e w' ⟨rfl,rfl⟩))
 all_goals go_wp2_with fail
 all_goals
  go_returns
  refine ⟨rfl,?_⟩
  exact (((((((Below.refl _ _).alloc (by simp) _).alloc (by simp;try omega) _).alloc (by simp;try omega) _).alloc (by simp;try omega) _).alloc (by simp;try omega) _)).drew
theorem tell_small_t (A X f L inside:Int) (y0 y1 y2 y3 y5 y6 y7 pw pu px wr:Bool) (hL:(L==2 && y5)=false) (w:World) :
 Calls Tryz.prog 69 #[.agg (sb1 A X y0 y1 y2 y3 true y5 y6 y7 f L),.agg (sn pw pu px),.int .i64 inside,.bool wr] w (re (.agg (sd1 f pw pu px y6 false true)) w):=by
 have LA:Hid (∀ w:World,Calls Tryz.prog 99 #[.agg (sb1 A X y0 y1 y2 y3 true y5 y6 y7 f L)] w fun e w'=>e=.returned (.bool false)/\w'=w.alloc (.cells (sb1 A X y0 y1 y2 y3 true y5 y6 y7 f L) 167)):=fun w=>by
  have:=large_at A X f L y0 y1 y2 y3 true y5 y6 y7 w
  rw [hL] at this;exact this
 clear hL
 go_enter Tryz.func69,Tryz.ntmps69
 go_wp2_with fail
 refine wp_region_noPanic ?_
 refine wp_region_held_drew (S:=fun u=>u.cell? ⟨w.heap.size,0,none⟩=some (.int .u64 A)/\u.cell? ⟨w.heap.size,1,none⟩=some (.int .u64 X)/\u.cell? ⟨w.heap.size,2,none⟩=some (.bool y0)/\u.cell? ⟨w.heap.size,3,none⟩=some (.bool y1)/\u.cell? ⟨w.heap.size,4,none⟩=some (.bool y2)/\u.cell? ⟨w.heap.size,5,none⟩=some (.bool y3)/\u.cell? ⟨w.heap.size,6,none⟩=some (.bool true)/\u.cell? ⟨w.heap.size,7,none⟩=some (.bool y5)/\u.cell? ⟨w.heap.size,8,none⟩=some (.bool y6)/\u.cell? ⟨w.heap.size,9,none⟩=some (.bool y7)/\u.cell? ⟨w.heap.size,10,none⟩=some (.int .i64 f)/\u.cell? ⟨w.heap.size,11,none⟩=some (.int .i64 L)/\u.cell? ⟨w.heap.size+1,0,none⟩=some (.bool pw)/\u.cell? ⟨w.heap.size+1,1,none⟩=some (.bool pu)/\u.cell? ⟨w.heap.size+1,2,none⟩=some (.bool px)) ka ?_ (fun hHeld=> ?_)
 . (try dsimp only);((go_split_ands;(repeat' apply And.intro) <;> first | (with_reducible assumption) | (simp [*];done) | (simp (disch:=(simp;try omega)) [World.cell?_alloc_lt];done)))
 refine tk0 0 ?_ rfl (Or.inl ⟨by rfl,?_⟩) ?_
 rotate_left
 . exact ke1
 try simp only [Act.put,zaa,zba,zca]
 refine tk0 1 ?_ rfl (Or.inl ⟨by rfl,?_⟩) ?_
 rotate_left
 . exact ke1
 try simp only [Act.put,zaa,zba,zca]
 refine tk0 2 ?_ rfl (Or.inl ⟨by rfl,?_⟩) ?_
 rotate_left
 . exact ke1
 try simp only [Act.put,zaa,zba,zca]
 refine tk0 3 ?_ rfl (Or.inl ⟨by rfl,?_⟩) ?_
 rotate_left
 . exact ke1
 try simp only [Act.put,zaa,zba,zca]
 refine tk0 4 ?_ rfl (Or.inl ⟨by rfl,?_⟩) ?_
 rotate_left
 . exact ke1
 try simp only [Act.put,zaa,zba,zca]
 refine tk0 5 ?_ rfl (Or.inl ⟨by rfl,?_⟩) ?_
 rotate_left
 . exact ke1
 try simp only [Act.put,zaa,zba,zca]
 refine tk0 6 ?_ rfl (Or.inl ⟨by rfl,?_⟩) ?_
 rotate_left
 . exact ke1
 try simp only [Act.put,zaa,zba,zca]
 refine tk0 7 ?_ rfl (Or.inl ⟨by rfl,?_⟩) ?_
 rotate_left
 . exact ke1
 try simp only [Act.put,zaa,zba,zca]
 refine tk0 9 ?_ rfl (Or.inl ⟨by rfl,?_⟩) ?_
 rotate_left
 . exact ke1
 try simp only [Act.put,zaa,zba,zca]
 refine tk0 10 ?_ rfl (Or.inl ⟨by rfl,?_⟩) ?_
 rotate_left
 . exact ke1
 try simp only [Act.put,zaa,zba,zca]
 refine tk0 11 ?_ rfl (Or.inl ⟨by rfl,?_⟩) ?_
 rotate_left
 . exact ke1
 try simp only [Act.put,zaa,zba,zca]
 refine wpAnyH_ready (rs:=[8,16]) ka (by simp) ?_
 refine AllReadyH.cons rfl (fun K hK=> ?_) (AllReadyH.cons rfl (fun K hK=> ?_) AllReadyH.nil)
 . go_simp
   go_wp2_with (go_at_call 99;refine (LA.out _).mono ?_;rintro e w' ⟨rfl,rfl⟩)
   refine hK.out _ _ ?_ (fun hHeld=> ?_)
   . (try dsimp only);((go_split_ands;(repeat' apply And.intro) <;> first | (with_reducible assumption) | (simp [*];done) | (simp (disch:=(simp;try omega)) [World.cell?_alloc_lt];done)))
   clear hK K
   try simp only [Act.put,zaa,zba,zca]
   refine tk0 12 ?_ rfl (Or.inl ⟨by rfl,?_⟩) ?_
   rotate_left
   . exact ke1
   try simp only [Act.put,zaa,zba,zca]
   refine tk0 13 undef rfl (Or.inr ⟨by rfl,rfl⟩) ?_
   try simp only [Act.put,zaa,zba,zca]
   refine tk0 14 ?_ rfl (Or.inl ⟨by rfl,?_⟩) ?_
   rotate_left
   . exact ke1
   try simp only [Act.put,zaa,zba,zca]
   refine tk0 15 ?_ rfl (Or.inl ⟨by rfl,?_⟩) ?_
   rotate_left
   . exact ke1
   try simp only [Act.put,zaa,zba,zca]
   refine wpAnyH_ready (rs:=[16]) ka (by simp) ?_
   refine AllReadyH.cons rfl (fun K hK=> ?_) AllReadyH.nil
   go_simp
   refine hK.out _ _ ?_ (fun hHeld=> ?_)
   . (try dsimp only);((go_split_ands;(repeat' apply And.intro) <;> first | (with_reducible assumption) | (simp [*];done) | (simp (disch:=(simp;try omega)) [World.cell?_alloc_lt];done)))
   clear hK K
   try simp only [Act.put,zaa,zba,zca]
   refine wpAnyH_ready (rs:=[17]) ka (by simp) ?_
   refine AllReadyH.cons rfl (fun K hK=> ?_) AllReadyH.nil
   go_simp
   refine hK.out _ _ ?_ (fun hHeld=> ?_)
   . (try dsimp only);((go_split_ands;(repeat' apply And.intro) <;> first | (with_reducible assumption) | (simp [*];done) | (simp (disch:=(simp;try omega)) [World.cell?_alloc_lt];done)))
   clear hK K
   try simp only [Act.put,zaa,zba,zca]
   refine wpAnyH_done ka ?_ _
   refine NoPanic.normal ?_
   go_wp2_with fail
   go_returns
   refine ⟨rfl,?_⟩
   exact (((((((Below.refl _ _).alloc (by simp) _).alloc (by simp;try omega) _).alloc (by simp;try omega) _).alloc (by simp;try omega) _).alloc (by simp;try omega) _)).drew
 . go_simp
   refine hK.out _ _ ?_ (fun hHeld=> ?_)
   . (try dsimp only);((go_split_ands;(repeat' apply And.intro) <;> first | (with_reducible assumption) | (simp [*];done) | (simp (disch:=(simp;try omega)) [World.cell?_alloc_lt];done)))
   clear hK K
   try simp only [Act.put,zaa,zba,zca]
   refine wpAnyH_ready (rs:=[8]) ka (by simp) ?_
   refine AllReadyH.cons rfl (fun K hK=> ?_) AllReadyH.nil
   go_simp
   go_wp2_with (go_at_call 99;refine (LA.out _).mono ?_;rintro e w' ⟨rfl,rfl⟩)
   refine hK.out _ _ ?_ (fun hHeld=> ?_)
   . (try dsimp only);((go_split_ands;(repeat' apply And.intro) <;> first | (with_reducible assumption) | (simp [*];done) | (simp (disch:=(simp;try omega)) [World.cell?_alloc_lt];done)))
   clear hK K
   try simp only [Act.put,zaa,zba,zca]
   refine tk0 12 ?_ rfl (Or.inl ⟨by rfl,?_⟩) ?_
   rotate_left
   . exact ke1
   try simp only [Act.put,zaa,zba,zca]
   refine tk0 13 undef rfl (Or.inr ⟨by rfl,rfl⟩) ?_
   try simp only [Act.put,zaa,zba,zca]
   refine tk0 14 ?_ rfl (Or.inl ⟨by rfl,?_⟩) ?_
   rotate_left
   . exact ke1
   try simp only [Act.put,zaa,zba,zca]
   refine tk0 15 ?_ rfl (Or.inl ⟨by rfl,?_⟩) ?_
   rotate_left
   . exact ke1
   try simp only [Act.put,zaa,zba,zca]
   refine wpAnyH_ready (rs:=[17]) ka (by simp) ?_
   refine AllReadyH.cons rfl (fun K hK=> ?_) AllReadyH.nil
   go_simp
   refine hK.out _ _ ?_ (fun hHeld=> ?_)
   . (try dsimp only);((go_split_ands;(repeat' apply And.intro) <;> first | (with_reducible assumption) | (simp [*];done) | (simp (disch:=(simp;try omega)) [World.cell?_alloc_lt];done)))
   clear hK K
   try simp only [Act.put,zaa,zba,zca]
   refine wpAnyH_done ka ?_ _
   refine NoPanic.normal ?_
   go_wp2_with fail
   go_returns
   refine ⟨rfl,?_⟩
   exact (((((((Below.refl _ _).alloc (by simp) _).alloc (by simp;try omega) _).alloc (by simp;try omega) _).alloc (by simp;try omega) _).alloc (by simp;try omega) _)).drew
theorem catch_idle (p q r:Addr) (w:World) :
 CallsD Tryz.prog 60 #[.pointer (some p),.pointer (some q),.pointer (some r)] .returning w fun e u' w'=>e=.returned (.tuple #[])/\u'=.returning/\w'=w:=by
 refine callsD_of_wpS Tryz.func60 rfl fun c₀ cs hu=> ?_
 apply wpS_seq
 apply wpS_region
 simp [wpOpsS,go_sem,recoverD,hu,Tryz.ntmps60,Exit.thenS]
 apply wpS_seq
 apply wpS_seq
 apply wpS_region
 simp [wpOpsS,go_sem,Exit.thenS]
 refine wpS_cond (t:=true) (by simp [Act.eval,Array.replicate]) ?_
 simp only [if_true]
 refine wpS_of_wp (wp_ret ?_)
 cases c₀
 simp_all [bodyPostS,results,Tryz.results60,Exit.thenS]
theorem kept_setCell1 (K:Nat->Prop) (b:Nat) (hb: ¬ K b) (o:Nat) (v:Value) (w:World):Kept K w (w.setCell ⟨b,o,none⟩ v):=by
 have h:Below 0 w (w.setCell ⟨b,o,none⟩ v):=(Below.refl 0 w).setCell (Nat.zero_le _) v
 exact ⟨h.os,h.tape,h.output,h.size,fun k hk=>Below.heap_setCell _ _ _ _ (fun e=>hb (by rw [show b=k from e.symm];exact hk))⟩
theorem cell_setCells_ne {w:World} {b o:Nat} {vs:List Value} {x:Addr} (h:x.block≠b):(w.setCells b o vs).cell? x=w.cell? x:=World.cell?_setCells_out b vs o w x (fun hb _=>absurd hb h)
theorem kept_setCells (K:Nat->Prop) (b:Nat) (hb: ¬ K b): ∀ (vs:List Value) (o:Nat) (w:World),Kept K w (w.setCells b o vs)
 | [], _, w => Kept.refl K w
 | v :: r, o, w => by
  rw [World.setCells]
  exact Kept.trans (kept_setCell1 K b hb o v w) (kept_setCells K b hb r (o+1) _)
theorem wanted_mp {c:Prop} [Decidable c] {a b:Prop} (h:c) (ha:a):if c then a else b:=by rw [if_pos h];exact ha
theorem fault_info:(Tryz.prog.info? 47).map (·.size)=some 2:=ka
theorem found_info:(Tryz.prog.info? 113).map (·.size)=some 7:=ka
structure Door (w W:World):Prop where
 f:W.there (w.heap.size+1) 0 7
 g:W.there (w.heap.size+1+1) 0 2
 e:W.cell? ⟨w.heap.size+1+1+1,0,none⟩=some (.int .i64 0)
 z:W.frozen? ⟨w.heap.size+1+1+1,0,none⟩=false
 l:w.heap.size+1+1+1<W.heap.size
 b:bc w W
theorem there_below {W W':World} {b o n:Nat} (h:W.there b o n) (hb:bc W W') (l:b<W.heap.size):W'.there b o n:=fun j hj=>by
 obtain ⟨h1,h2⟩:=h j hj
 exact ⟨by rw [hb.cell (p:=⟨b,o+j,none⟩) l];exact h1,by rw [hb.frozen (p:=⟨b,o+j,none⟩) l];exact h2⟩
theorem Door.next {w W W':World} (h:Door w W) (hb:bc W W'):Door w W' :=
 ⟨there_below h.f hb (by have:=h.l;omega),there_below h.g hb (by have:=h.l;omega),(hb.cell (p:=⟨w.heap.size+1+1+1,0,none⟩) h.l).trans h.e,(hb.frozen (p:=⟨w.heap.size+1+1+1,0,none⟩) h.l).trans h.z,nla h.l hb.size,below_then h.b hb⟩
theorem there_of_block {w:World} {b:Nat} {C:Array Value} {t:TypeId} (h:w.heap[b]? =some (.cells C t (0,0))):w.there b 0 C.size:=fun j hj=>by
 rw [Nat.zero_add]
 exact ⟨by rw [Go.Joins.cell_of_block h j,Array.getElem?_eq_getElem hj];rfl,Go.Joins.unfrozen_of_block h j⟩
theorem Door.made (w:World) (a:Obj):Door w ((((w.alloc a).alloc (.cells so1 113)).alloc (.cells #[.int .u64 0,.int .i64 0] 47)).alloc (.cells #[.int .i64 0] 37)):=by
 have h1:=own3a (w.alloc a) (.cells so1 113) (.cells #[.int .u64 0,.int .i64 0] 47) (.cells #[.int .i64 0] 37)
 have h2:=own3b (w.alloc a) (.cells so1 113) (.cells #[.int .u64 0,.int .i64 0] 47) (.cells #[.int .i64 0] 37)
 have h3:=own3c (w.alloc a) (.cells so1 113) (.cells #[.int .u64 0,.int .i64 0] 47) (.cells #[.int .i64 0] 37)
 rw [World.size_alloc] at h1 h2 h3
 exact ⟨there_of_block h1,there_of_block h2,Go.Joins.cell_of_block h3 0,Go.Joins.unfrozen_of_block h3 0,by simp,(((((Below.refl _ _).alloc (by simp) _).alloc (by simp;try omega) _).alloc (by simp;try omega) _).alloc (by simp;try omega) _)⟩
theorem range_cell {w:World} {b:Nat} {v:Value} (h:w.rangeAt b 0 [v]):w.cell? ⟨b,0,none⟩=some v:=by have:=h 0 v rfl;rwa [Nat.zero_add] at this
theorem load_errno (W:World) (b:Nat) (er:Int) (h:W.cell? ⟨b,0,none⟩=some (.int .i64 er)):(loadVar 37 ⟨b,0,none⟩).run Tryz.prog W=.ok (.int .i64 er) W:=by
 simp [loadVar,go_sem,h]
theorem results_cell3 {fn:Func} {p q r:Tmp} {t1 t2 t3:TypeId} (h:fn.results= #[.cell p t1,.cell q t2,.cell r t3]) (tmps:Array Value) (P:Program) (w:World) (a b c:Addr) (x y z:Value)
 (ha:tmps.getD p undef=.pointer (some a)) (hb:tmps.getD q undef=.pointer (some b)) (hc:tmps.getD r undef=.pointer (some c))
 (hx:(loadVar t1 a).run P w=.ok x w) (hy:(loadVar t2 b).run P w=.ok y w) (hz:(loadVar t3 c).run P w=.ok z w) :
 (results fn tmps).run P w=.ok (.tuple #[x,y,z]) w:=by
 simp only [results,h]
 have e1: ∀ W:World,(asAddr (Value.pointer (some a))).run P W=.ok a W:=fun _=>rfl
 have e2: ∀ W:World,(asAddr (Value.pointer (some b))).run P W=.ok b W:=fun _=>rfl
 have e3: ∀ W:World,(asAddr (Value.pointer (some c))).run P W=.ok c W:=fun _=>rfl
 simp at ha hb hc
 simp [Sem.run_bind,Result.andThen,ha,hb,hc,e1,e2,e3,hx,hy,hz]
theorem perm_info:(Tryz.prog.info? 45).map (·.size)=some 3:=ka
def CI (w wr:World) (a b c:Bool):Prop:= ∃ r0 r1 r2,wr.heap[w.heap.size]? =some (.cells #[r0,r1,r2] 45 (0,0))/\wr.heap[w.heap.size+1]? =some (.cells #[.bool a,.bool b,.bool c] 45 (0,0))/\bc w wr
theorem CI.made (w:World) (r0 r1 r2:Value):CI w ((w.alloc (.cells #[r0,r1,r2] 45)).alloc (.cells (sn true true true) 45)) true true true :=
 ⟨r0,r1,r2,own2a w _ _,own2b w _ _,Go.Joins.below_alloc2 _ _ _⟩
theorem heap_set_other (w:World) (a:Addr) (v:Value) (k:Nat) (h:k≠a.block):(w.setCell a v).heap[k]? =w.heap[k]? :=Below.heap_setCell _ _ _ _ h
theorem CI.next {w wr:World} {a b c:Bool} (h:CI w wr a b c) (o:Obj) (a' b' c':Bool) :
 CI w ((((wr.setCell ⟨w.heap.size+1,0,none⟩ (.bool a')).setCell ⟨w.heap.size+1,1,none⟩ (.bool b')).setCell ⟨w.heap.size+1,2,none⟩ (.bool c')).alloc o) a' b' c':=by
 obtain ⟨r0,r1,r2,h1,h2,h3⟩:=h
 have l1:w.heap.size<wr.heap.size:=(Array.getElem?_eq_some_iff.1 h1).1
 have l2:w.heap.size+1<wr.heap.size:=(Array.getElem?_eq_some_iff.1 h2).1
 have m1:=Go.Joins.block_setCell (i:=0) h2 (.bool a')
 have m2:=Go.Joins.block_setCell (i:=1) m1 (.bool b')
 have m3:=Go.Joins.block_setCell (i:=2) m2 (.bool c')
 have n3:(((wr.setCell ⟨w.heap.size+1,0,none⟩ (.bool a')).setCell ⟨w.heap.size+1,1,none⟩ (.bool b')).setCell ⟨w.heap.size+1,2,none⟩ (.bool c')).heap[w.heap.size]? =some (.cells #[r0,r1,r2] 45 (0,0)):=by
  rw [heap_set_other _ _ _ _ (by simp),heap_set_other _ _ _ _ (by simp),heap_set_other _ _ _ _ (by simp)];exact h1
 have B:=((h3.setCell (p:=⟨w.heap.size+1,0,none⟩) (by simp) (.bool a')).setCell (p:=⟨w.heap.size+1,1,none⟩) (by simp) (.bool b')).setCell (p:=⟨w.heap.size+1,2,none⟩) (by simp) (.bool c')
 have hs: ∀ (W:World) (k:Nat) (x:Obj),W.heap[k]? =some x->(W.alloc o).heap[k]? =some x:=fun W k x hx=>((Go.Joins.below_alloc1 W o).block k (Array.getElem?_eq_some_iff.1 hx).1).trans hx
 exact ⟨r0,r1,r2,hs _ _ _ n3,hs _ _ _ m3,below_new B o⟩
theorem way_cell {w:World} {base n g cap:Nat} {xs:List Value} (h:(.slice (some ⟨g,0,none⟩) n cap:Value)=.slice none 0 0/\n=0 \/
 ∃ g' cap' cur,(.slice (some ⟨g,0,none⟩) n cap:Value)=.slice (some ⟨g',0,none⟩) n cap'/\base<=g'/\w.heap[g']? =some (.cells cur 167 (0,0))/\n<=cap'/\cap'<=maxLen/\cur.size=cap'*12/\cur.toList.take (n*12)=xs) (hg:g<w.heap.size) :
  ∀ (j:Nat) (x:Value),xs[j]? =some x->w.cell? ⟨g,j,none⟩=some x:=by
 intro j x hx
 rcases h with ⟨h,_⟩ | ⟨g',cap',cur,e1,e2,e3,e4,e5,e6,e7⟩
 . cases h
 . cases e1
   rw [Go.Joins.cell_of_block e3 j]
   rw [<- e7,List.getElem?_take] at hx
   split at hx
   . rw [Array.getElem?_toList] at hx;exact hx
   . cases hx
theorem common4 (A0 X0 f0:Int) (y00 y01 y02 y03 y04 y05 y06 y07:Bool) (A1 X1 f1:Int) (y10 y11 y12 y13 y14 y15 y16 y17:Bool) (A2 X2 f2:Int) (y20 y21 y22 y23 y24 y26 y27:Bool) (A3 X3 f3:Int) (y30 y31 y32 y33 y34 y35 y36 y37:Bool) (base:Nat) (v:Value) (w:World) (h:Way w base v 4 ((((([]:List Value)++((sc1 A0 X0 y00 y01 y02 y03 y04 y05 y06 y07 f0 4):List Value))++((sc1 A1 X1 y10 y11 y12 y13 y14 y15 y16 y17 f1 3):List Value))++((sc1 A2 X2 y20 y21 y22 y23 y24 false y26 y27 f2 2):List Value))++((sc1 A3 X3 y30 y31 y32 y33 y34 y35 y36 y37 f3 1):List Value))) :
 Calls Tryz.prog 66 #[v] w (re (.agg (sn ((((true && y01) && y11) && y21) && y31) ((((true && y02) && y12) && y22) && y32) ((((true && !y07) && !y17) && !y27) && !y37))) w):=by
 obtain ⟨⟨hlen,hrow⟩,g,cap,rfl,hg1,hg2⟩:=h
 have hc: ∀ (j:Nat) (x:Value),((((([]:List Value)++((sc1 A0 X0 y00 y01 y02 y03 y04 y05 y06 y07 f0 4):List Value))++((sc1 A1 X1 y10 y11 y12 y13 y14 y15 y16 y17 f1 3):List Value))++((sc1 A2 X2 y20 y21 y22 y23 y24 false y26 y27 f2 2):List Value))++((sc1 A3 X3 y30 y31 y32 y33 y34 y35 y36 y37 f3 1):List Value))[j]? =some x->w.cell? ⟨g,j,none⟩=some x:=way_cell hrow hg2
 have q0:w.cell? ⟨g,0,none⟩=some (.int .u64 A0):=hc 0 _ rfl
 have q1:w.cell? ⟨g,1,none⟩=some (.int .u64 X0):=hc 1 _ rfl
 have q2:w.cell? ⟨g,2,none⟩=some (.bool y00):=hc 2 _ rfl
 have q3:w.cell? ⟨g,3,none⟩=some (.bool y01):=hc 3 _ rfl
 have q4:w.cell? ⟨g,4,none⟩=some (.bool y02):=hc 4 _ rfl
 have q5:w.cell? ⟨g,5,none⟩=some (.bool y03):=hc 5 _ rfl
 have q6:w.cell? ⟨g,6,none⟩=some (.bool y04):=hc 6 _ rfl
 have q7:w.cell? ⟨g,7,none⟩=some (.bool y05):=hc 7 _ rfl
 have q8:w.cell? ⟨g,8,none⟩=some (.bool y06):=hc 8 _ rfl
 have q9:w.cell? ⟨g,9,none⟩=some (.bool y07):=hc 9 _ rfl
 have q10:w.cell? ⟨g,10,none⟩=some (.int .i64 f0):=hc 10 _ rfl
 have q11:w.cell? ⟨g,11,none⟩=some (.int .i64 4):=hc 11 _ rfl
 have q12:w.cell? ⟨g,12,none⟩=some (.int .u64 A1):=hc 12 _ rfl
 have q13:w.cell? ⟨g,13,none⟩=some (.int .u64 X1):=hc 13 _ rfl
 have q14:w.cell? ⟨g,14,none⟩=some (.bool y10):=hc 14 _ rfl
 have q15:w.cell? ⟨g,15,none⟩=some (.bool y11):=hc 15 _ rfl
 have q16:w.cell? ⟨g,16,none⟩=some (.bool y12):=hc 16 _ rfl
 have q17:w.cell? ⟨g,17,none⟩=some (.bool y13):=hc 17 _ rfl
 have q18:w.cell? ⟨g,18,none⟩=some (.bool y14):=hc 18 _ rfl
 have q19:w.cell? ⟨g,19,none⟩=some (.bool y15):=hc 19 _ rfl
 have q20:w.cell? ⟨g,20,none⟩=some (.bool y16):=hc 20 _ rfl
 have q21:w.cell? ⟨g,21,none⟩=some (.bool y17):=hc 21 _ rfl
 have q22:w.cell? ⟨g,22,none⟩=some (.int .i64 f1):=hc 22 _ rfl
 have q23:w.cell? ⟨g,23,none⟩=some (.int .i64 3):=hc 23 _ rfl
 have q24:w.cell? ⟨g,24,none⟩=some (.int .u64 A2):=hc 24 _ rfl
 have q25:w.cell? ⟨g,25,none⟩=some (.int .u64 X2):=hc 25 _ rfl
 have q26:w.cell? ⟨g,26,none⟩=some (.bool y20):=hc 26 _ rfl
 have q27:w.cell? ⟨g,27,none⟩=some (.bool y21):=hc 27 _ rfl
 have q28:w.cell? ⟨g,28,none⟩=some (.bool y22):=hc 28 _ rfl
 have q29:w.cell? ⟨g,29,none⟩=some (.bool y23):=hc 29 _ rfl
 have q30:w.cell? ⟨g,30,none⟩=some (.bool y24):=hc 30 _ rfl
 have q31:w.cell? ⟨g,31,none⟩=some (.bool false):=hc 31 _ rfl
 have q32:w.cell? ⟨g,32,none⟩=some (.bool y26):=hc 32 _ rfl
 have q33:w.cell? ⟨g,33,none⟩=some (.bool y27):=hc 33 _ rfl
 have q34:w.cell? ⟨g,34,none⟩=some (.int .i64 f2):=hc 34 _ rfl
 have q35:w.cell? ⟨g,35,none⟩=some (.int .i64 2):=hc 35 _ rfl
 have q36:w.cell? ⟨g,36,none⟩=some (.int .u64 A3):=hc 36 _ rfl
 have q37:w.cell? ⟨g,37,none⟩=some (.int .u64 X3):=hc 37 _ rfl
 have q38:w.cell? ⟨g,38,none⟩=some (.bool y30):=hc 38 _ rfl
 have q39:w.cell? ⟨g,39,none⟩=some (.bool y31):=hc 39 _ rfl
 have q40:w.cell? ⟨g,40,none⟩=some (.bool y32):=hc 40 _ rfl
 have q41:w.cell? ⟨g,41,none⟩=some (.bool y33):=hc 41 _ rfl
 have q42:w.cell? ⟨g,42,none⟩=some (.bool y34):=hc 42 _ rfl
 have q43:w.cell? ⟨g,43,none⟩=some (.bool y35):=hc 43 _ rfl
 have q44:w.cell? ⟨g,44,none⟩=some (.bool y36):=hc 44 _ rfl
 have q45:w.cell? ⟨g,45,none⟩=some (.bool y37):=hc 45 _ rfl
 have q46:w.cell? ⟨g,46,none⟩=some (.int .i64 f3):=hc 46 _ rfl
 have q47:w.cell? ⟨g,47,none⟩=some (.int .i64 1):=hc 47 _ rfl
 have Q:Hid (w.cell? ⟨g,0,none⟩=some (.int .u64 A0)/\w.cell? ⟨g,1,none⟩=some (.int .u64 X0)/\w.cell? ⟨g,2,none⟩=some (.bool y00)/\w.cell? ⟨g,3,none⟩=some (.bool y01)/\w.cell? ⟨g,4,none⟩=some (.bool y02)/\w.cell? ⟨g,5,none⟩=some (.bool y03)/\w.cell? ⟨g,6,none⟩=some (.bool y04)/\w.cell? ⟨g,7,none⟩=some (.bool y05)/\w.cell? ⟨g,8,none⟩=some (.bool y06)/\w.cell? ⟨g,9,none⟩=some (.bool y07)/\w.cell? ⟨g,10,none⟩=some (.int .i64 f0)/\w.cell? ⟨g,11,none⟩=some (.int .i64 4)/\w.cell? ⟨g,12,none⟩=some (.int .u64 A1)/\w.cell? ⟨g,13,none⟩=some (.int .u64 X1)/\w.cell? ⟨g,14,none⟩=some (.bool y10)/\w.cell? ⟨g,15,none⟩=some (.bool y11)/\w.cell? ⟨g,16,none⟩=some (.bool y12)/\w.cell? ⟨g,17,none⟩=some (.bool y13)/\w.cell? ⟨g,18,none⟩=some (.bool y14)/\w.cell? ⟨g,19,none⟩=some (.bool y15)/\w.cell? ⟨g,20,none⟩=some (.bool y16)/\w.cell? ⟨g,21,none⟩=some (.bool y17)/\w.cell? ⟨g,22,none⟩=some (.int .i64 f1)/\w.cell? ⟨g,23,none⟩=some (.int .i64 3)/\w.cell? ⟨g,24,none⟩=some (.int .u64 A2)/\w.cell? ⟨g,25,none⟩=some (.int .u64 X2)/\w.cell? ⟨g,26,none⟩=some (.bool y20)/\w.cell? ⟨g,27,none⟩=some (.bool y21)/\w.cell? ⟨g,28,none⟩=some (.bool y22)/\w.cell? ⟨g,29,none⟩=some (.bool y23)/\w.cell? ⟨g,30,none⟩=some (.bool y24)/\w.cell? ⟨g,31,none⟩=some (.bool false)/\w.cell? ⟨g,32,none⟩=some (.bool y26)/\w.cell? ⟨g,33,none⟩=some (.bool y27)/\w.cell? ⟨g,34,none⟩=some (.int .i64 f2)/\w.cell? ⟨g,35,none⟩=some (.int .i64 2)/\w.cell? ⟨g,36,none⟩=some (.int .u64 A3)/\w.cell? ⟨g,37,none⟩=some (.int .u64 X3)/\w.cell? ⟨g,38,none⟩=some (.bool y30)/\w.cell? ⟨g,39,none⟩=some (.bool y31)/\w.cell? ⟨g,40,none⟩=some (.bool y32)/\w.cell? ⟨g,41,none⟩=some (.bool y33)/\w.cell? ⟨g,42,none⟩=some (.bool y34)/\w.cell? ⟨g,43,none⟩=some (.bool y35)/\w.cell? ⟨g,44,none⟩=some (.bool y36)/\w.cell? ⟨g,45,none⟩=some (.bool y37)/\w.cell? ⟨g,46,none⟩=some (.int .i64 f3)/\w.cell? ⟨g,47,none⟩=some (.int .i64 1)):=⟨q0,q1,q2,q3,q4,q5,q6,q7,q8,q9,q10,q11,q12,q13,q14,q15,q16,q17,q18,q19,q20,q21,q22,q23,q24,q25,q26,q27,q28,q29,q30,q31,q32,q33,q34,q35,q36,q37,q38,q39,q40,q41,q42,q43,q44,q45,q46,q47⟩
 clear hc hrow hlen q0 q1 q2 q3 q4 q5 q6 q7 q8 q9 q10 q11 q12 q13 q14 q15 q16 q17 q18 q19 q20 q21 q22 q23 q24 q25 q26 q27 q28 q29 q30 q31 q32 q33 q34 q35 q36 q37 q38 q39 q40 q41 q42 q43 q44 q45 q46 q47
 obtain ⟨W0,hW0⟩: ∃ b:Bool,b=true:=⟨_,rfl⟩
 obtain ⟨U0,hU0⟩: ∃ b:Bool,b=true:=⟨_,rfl⟩
 obtain ⟨E0,hE0⟩: ∃ b:Bool,b=true:=⟨_,rfl⟩
 obtain ⟨W1,hW1⟩: ∃ b:Bool,b=(true && y01):=⟨_,rfl⟩
 obtain ⟨U1,hU1⟩: ∃ b:Bool,b=(true && y02):=⟨_,rfl⟩
 obtain ⟨E1,hE1⟩: ∃ b:Bool,b=(true && !y07):=⟨_,rfl⟩
 obtain ⟨W2,hW2⟩: ∃ b:Bool,b=((true && y01) && y11):=⟨_,rfl⟩
 obtain ⟨U2,hU2⟩: ∃ b:Bool,b=((true && y02) && y12):=⟨_,rfl⟩
 obtain ⟨E2,hE2⟩: ∃ b:Bool,b=((true && !y07) && !y17):=⟨_,rfl⟩
 obtain ⟨W3,hW3⟩: ∃ b:Bool,b=(((true && y01) && y11) && y21):=⟨_,rfl⟩
 obtain ⟨U3,hU3⟩: ∃ b:Bool,b=(((true && y02) && y12) && y22):=⟨_,rfl⟩
 obtain ⟨E3,hE3⟩: ∃ b:Bool,b=(((true && !y07) && !y17) && !y27):=⟨_,rfl⟩
 obtain ⟨W4,hW4⟩: ∃ b:Bool,b=((((true && y01) && y11) && y21) && y31):=⟨_,rfl⟩
 obtain ⟨U4,hU4⟩: ∃ b:Bool,b=((((true && y02) && y12) && y22) && y32):=⟨_,rfl⟩
 obtain ⟨E4,hE4⟩: ∃ b:Bool,b=((((true && !y07) && !y17) && !y27) && !y37):=⟨_,rfl⟩
 have SW0:Hid (W1=(W0 && y01)):=by rw [hW1,hW0];rfl
 have SU0:Hid (U1=(U0 && y02)):=by rw [hU1,hU0];rfl
 have SE0:Hid (E1=(E0 && !y07)):=by rw [hE1,hE0];rfl
 have SW1:Hid (W2=(W1 && y11)):=by rw [hW2,hW1];rfl
 have SU1:Hid (U2=(U1 && y12)):=by rw [hU2,hU1];rfl
 have SE1:Hid (E2=(E1 && !y17)):=by rw [hE2,hE1];rfl
 have SW2:Hid (W3=(W2 && y21)):=by rw [hW3,hW2];rfl
 have SU2:Hid (U3=(U2 && y22)):=by rw [hU3,hU2];rfl
 have SE2:Hid (E3=(E2 && !y27)):=by rw [hE3,hE2];rfl
 have SW3:Hid (W4=(W3 && y31)):=by rw [hW4,hW3];rfl
 have SU3:Hid (U4=(U3 && y32)):=by rw [hU4,hU3];rfl
 have SE3:Hid (E4=(E3 && !y37)):=by rw [hE4,hE3];rfl
 have W0t:Hid (W0=true/\U0=true/\E0=true):=⟨hW0,hU0,hE0⟩
 rw [<- hW4,<- hU4,<- hE4]
 clear hW0 hU0 hE0 hW1 hU1 hE1 hW2 hU2 hE2 hW3 hU3 hE3 hW4 hU4 hE4
 have G2:Hid (g<w.heap.size):=hg2
 go_enter Tryz.func66,Tryz.ntmps66
 go_wp2_with fail
 go_loopw [9] (fun i wr=>(i=.int .i64 0/\CI w wr W0 U0 E0)\/(i=.int .i64 1/\CI w wr W1 U1 E1)\/(i=.int .i64 2/\CI w wr W2 U2 E2)\/(i=.int .i64 3/\CI w wr W3 U3 E3)\/(i=.int .i64 4/\CI w wr W4 U4 E4)) (fun i _=>(8-intOf i).toNat)
 case atStart=>exact Or.inl ⟨rfl,by rw [W0t.out.1,W0t.out.2.1,W0t.out.2.2];exact CI.made w _ _ _⟩
 case round =>
  rcases hrel with ⟨rfl,hci⟩ | ⟨rfl,hci⟩ | ⟨rfl,hci⟩ | ⟨rfl,hci⟩ | ⟨rfl,hci⟩
  . have HCI:Hid (CI w wr W0 U0 E0):=hci
    obtain ⟨r0,r1,r2,hr,hp,hbw⟩:=hci
    have zp:w.heap.size+1<wr.heap.size:=(Array.getElem?_eq_some_iff.1 hp).1
    have p0:wr.cell? ⟨w.heap.size+1,0,none⟩=some (.bool W0):=Go.Joins.cell_of_block hp 0
    have p1:wr.cell? ⟨w.heap.size+1,1,none⟩=some (.bool U0):=Go.Joins.cell_of_block hp 1
    have p2:wr.cell? ⟨w.heap.size+1,2,none⟩=some (.bool E0):=Go.Joins.cell_of_block hp 2
    have z0:wr.frozen? ⟨w.heap.size+1,0,none⟩=false:=Go.Joins.unfrozen_of_block hp 0
    have z1:wr.frozen? ⟨w.heap.size+1,1,none⟩=false:=Go.Joins.unfrozen_of_block hp 1
    have z2:wr.frozen? ⟨w.heap.size+1,2,none⟩=false:=Go.Joins.unfrozen_of_block hp 2
    have c0:wr.cell? ⟨g,0,none⟩=some (.int .u64 A0):=cell_next hbw G2.out (Q.out.1)
    have c1:wr.cell? ⟨g,1,none⟩=some (.int .u64 X0):=cell_next hbw G2.out (Q.out.2.1)
    have c2:wr.cell? ⟨g,2,none⟩=some (.bool y00):=cell_next hbw G2.out (Q.out.2.2.1)
    have c3:wr.cell? ⟨g,3,none⟩=some (.bool y01):=cell_next hbw G2.out (Q.out.2.2.2.1)
    have c4:wr.cell? ⟨g,4,none⟩=some (.bool y02):=cell_next hbw G2.out (Q.out.2.2.2.2.1)
    have c5:wr.cell? ⟨g,5,none⟩=some (.bool y03):=cell_next hbw G2.out (Q.out.2.2.2.2.2.1)
    have c6:wr.cell? ⟨g,6,none⟩=some (.bool y04):=cell_next hbw G2.out (Q.out.2.2.2.2.2.2.1)
    have c7:wr.cell? ⟨g,7,none⟩=some (.bool y05):=cell_next hbw G2.out (Q.out.2.2.2.2.2.2.2.1)
    have c8:wr.cell? ⟨g,8,none⟩=some (.bool y06):=cell_next hbw G2.out (Q.out.2.2.2.2.2.2.2.2.1)
    have c9:wr.cell? ⟨g,9,none⟩=some (.bool y07):=cell_next hbw G2.out (Q.out.2.2.2.2.2.2.2.2.2.1)
    have c10:wr.cell? ⟨g,10,none⟩=some (.int .i64 f0):=cell_next hbw G2.out (Q.out.2.2.2.2.2.2.2.2.2.2.1)
    have c11:wr.cell? ⟨g,11,none⟩=some (.int .i64 4):=cell_next hbw G2.out (Q.out.2.2.2.2.2.2.2.2.2.2.2.1)
    have gz:g<wr.heap.size:=nla G2.out hbw.size
    have gn: ¬ g=w.heap.size+1:=by have:=G2.out;omega
    clear hr hp hbw
    have sw:=SW0.out
    have su:=SU0.out
    have se:=SE0.out
    cases W0 <;> cases U0 <;> cases E0
    all_goals
     simp only [Bool.true_and,Bool.false_and] at sw su se
     have SS:Hid (W1=_/\U1=_/\E1=_):=⟨sw,su,se⟩
     clear sw su se
     go_wp2_with fail
     go_roundw
     case rel=>rw [SS.out.1,SS.out.2.1,SS.out.2.2];exact Or.inr (Or.inl ⟨rfl,HCI.out.next _ _ _ _⟩)
     case measure=>simp [intOf]
  . have HCI:Hid (CI w wr W1 U1 E1):=hci
    obtain ⟨r0,r1,r2,hr,hp,hbw⟩:=hci
    have zp:w.heap.size+1<wr.heap.size:=(Array.getElem?_eq_some_iff.1 hp).1
    have p0:wr.cell? ⟨w.heap.size+1,0,none⟩=some (.bool W1):=Go.Joins.cell_of_block hp 0
    have p1:wr.cell? ⟨w.heap.size+1,1,none⟩=some (.bool U1):=Go.Joins.cell_of_block hp 1
    have p2:wr.cell? ⟨w.heap.size+1,2,none⟩=some (.bool E1):=Go.Joins.cell_of_block hp 2
    have z0:wr.frozen? ⟨w.heap.size+1,0,none⟩=false:=Go.Joins.unfrozen_of_block hp 0
    have z1:wr.frozen? ⟨w.heap.size+1,1,none⟩=false:=Go.Joins.unfrozen_of_block hp 1
    have z2:wr.frozen? ⟨w.heap.size+1,2,none⟩=false:=Go.Joins.unfrozen_of_block hp 2
    have c0:wr.cell? ⟨g,12,none⟩=some (.int .u64 A1):=cell_next hbw G2.out (Q.out.2.2.2.2.2.2.2.2.2.2.2.2.1)
    have c1:wr.cell? ⟨g,13,none⟩=some (.int .u64 X1):=cell_next hbw G2.out (Q.out.2.2.2.2.2.2.2.2.2.2.2.2.2.1)
    have c2:wr.cell? ⟨g,14,none⟩=some (.bool y10):=cell_next hbw G2.out (Q.out.2.2.2.2.2.2.2.2.2.2.2.2.2.2.1)
    have c3:wr.cell? ⟨g,15,none⟩=some (.bool y11):=cell_next hbw G2.out (Q.out.2.2.2.2.2.2.2.2.2.2.2.2.2.2.2.1)
    have c4:wr.cell? ⟨g,16,none⟩=some (.bool y12):=cell_next hbw G2.out (Q.out.2.2.2.2.2.2.2.2.2.2.2.2.2.2.2.2.1)
    have c5:wr.cell? ⟨g,17,none⟩=some (.bool y13):=cell_next hbw G2.out (Q.out.2.2.2.2.2.2.2.2.2.2.2.2.2.2.2.2.2.1)
    have c6:wr.cell? ⟨g,18,none⟩=some (.bool y14):=cell_next hbw G2.out (Q.out.2.2.2.2.2.2.2.2.2.2.2.2.2.2.2.2.2.2.1)
    have c7:wr.cell? ⟨g,19,none⟩=some (.bool y15):=cell_next hbw G2.out (Q.out.2.2.2.2.2.2.2.2.2.2.2.2.2.2.2.2.2.2.2.1)
    have c8:wr.cell? ⟨g,20,none⟩=some (.bool y16):=cell_next hbw G2.out (Q.out.2.2.2.2.2.2.2.2.2.2.2.2.2.2.2.2.2.2.2.2.1)
    have c9:wr.cell? ⟨g,21,none⟩=some (.bool y17):=cell_next hbw G2.out (Q.out.2.2.2.2.2.2.2.2.2.2.2.2.2.2.2.2.2.2.2.2.2.1)
    have c10:wr.cell? ⟨g,22,none⟩=some (.int .i64 f1):=cell_next hbw G2.out (Q.out.2.2.2.2.2.2.2.2.2.2.2.2.2.2.2.2.2.2.2.2.2.2.1)
    have c11:wr.cell? ⟨g,23,none⟩=some (.int .i64 3):=cell_next hbw G2.out (Q.out.2.2.2.2.2.2.2.2.2.2.2.2.2.2.2.2.2.2.2.2.2.2.2.1)
    have gz:g<wr.heap.size:=nla G2.out hbw.size
    have gn: ¬ g=w.heap.size+1:=by have:=G2.out;omega
    clear hr hp hbw
    have sw:=SW1.out
    have su:=SU1.out
    have se:=SE1.out
    cases W1 <;> cases U1 <;> cases E1
    all_goals
     simp only [Bool.true_and,Bool.false_and] at sw su se
     have SS:Hid (W2=_/\U2=_/\E2=_):=⟨sw,su,se⟩
     clear sw su se
     go_wp2_with fail
     go_roundw
     case rel=>rw [SS.out.1,SS.out.2.1,SS.out.2.2];exact Or.inr (Or.inr (Or.inl ⟨rfl,HCI.out.next _ _ _ _⟩))
     case measure=>simp [intOf]
  . have HCI:Hid (CI w wr W2 U2 E2):=hci
    obtain ⟨r0,r1,r2,hr,hp,hbw⟩:=hci
    have zp:w.heap.size+1<wr.heap.size:=(Array.getElem?_eq_some_iff.1 hp).1
    have p0:wr.cell? ⟨w.heap.size+1,0,none⟩=some (.bool W2):=Go.Joins.cell_of_block hp 0
    have p1:wr.cell? ⟨w.heap.size+1,1,none⟩=some (.bool U2):=Go.Joins.cell_of_block hp 1
    have p2:wr.cell? ⟨w.heap.size+1,2,none⟩=some (.bool E2):=Go.Joins.cell_of_block hp 2
    have z0:wr.frozen? ⟨w.heap.size+1,0,none⟩=false:=Go.Joins.unfrozen_of_block hp 0
    have z1:wr.frozen? ⟨w.heap.size+1,1,none⟩=false:=Go.Joins.unfrozen_of_block hp 1
    have z2:wr.frozen? ⟨w.heap.size+1,2,none⟩=false:=Go.Joins.unfrozen_of_block hp 2
    have c0:wr.cell? ⟨g,24,none⟩=some (.int .u64 A2):=cell_next hbw G2.out (Q.out.2.2.2.2.2.2.2.2.2.2.2.2.2.2.2.2.2.2.2.2.2.2.2.2.1)
    have c1:wr.cell? ⟨g,25,none⟩=some (.int .u64 X2):=cell_next hbw G2.out (Q.out.2.2.2.2.2.2.2.2.2.2.2.2.2.2.2.2.2.2.2.2.2.2.2.2.2.1)
    have c2:wr.cell? ⟨g,26,none⟩=some (.bool y20):=cell_next hbw G2.out (Q.out.2.2.2.2.2.2.2.2.2.2.2.2.2.2.2.2.2.2.2.2.2.2.2.2.2.2.1)
    have c3:wr.cell? ⟨g,27,none⟩=some (.bool y21):=cell_next hbw G2.out (Q.out.2.2.2.2.2.2.2.2.2.2.2.2.2.2.2.2.2.2.2.2.2.2.2.2.2.2.2.1)
    have c4:wr.cell? ⟨g,28,none⟩=some (.bool y22):=cell_next hbw G2.out (Q.out.2.2.2.2.2.2.2.2.2.2.2.2.2.2.2.2.2.2.2.2.2.2.2.2.2.2.2.2.1)
    have c5:wr.cell? ⟨g,29,none⟩=some (.bool y23):=cell_next hbw G2.out (Q.out.2.2.2.2.2.2.2.2.2.2.2.2.2.2.2.2.2.2.2.2.2.2.2.2.2.2.2.2.2.1)
    have c6:wr.cell? ⟨g,30,none⟩=some (.bool y24):=cell_next hbw G2.out (Q.out.2.2.2.2.2.2.2.2.2.2.2.2.2.2.2.2.2.2.2.2.2.2.2.2.2.2.2.2.2.2.1)
    have c7:wr.cell? ⟨g,31,none⟩=some (.bool false):=cell_next hbw G2.out (Q.out.2.2.2.2.2.2.2.2.2.2.2.2.2.2.2.2.2.2.2.2.2.2.2.2.2.2.2.2.2.2.2.1)
    have c8:wr.cell? ⟨g,32,none⟩=some (.bool y26):=cell_next hbw G2.out (Q.out.2.2.2.2.2.2.2.2.2.2.2.2.2.2.2.2.2.2.2.2.2.2.2.2.2.2.2.2.2.2.2.2.1)
    have c9:wr.cell? ⟨g,33,none⟩=some (.bool y27):=cell_next hbw G2.out (Q.out.2.2.2.2.2.2.2.2.2.2.2.2.2.2.2.2.2.2.2.2.2.2.2.2.2.2.2.2.2.2.2.2.2.1)
    have c10:wr.cell? ⟨g,34,none⟩=some (.int .i64 f2):=cell_next hbw G2.out (Q.out.2.2.2.2.2.2.2.2.2.2.2.2.2.2.2.2.2.2.2.2.2.2.2.2.2.2.2.2.2.2.2.2.2.2.1)
    have c11:wr.cell? ⟨g,35,none⟩=some (.int .i64 2):=cell_next hbw G2.out (Q.out.2.2.2.2.2.2.2.2.2.2.2.2.2.2.2.2.2.2.2.2.2.2.2.2.2.2.2.2.2.2.2.2.2.2.2.1)
    have gz:g<wr.heap.size:=nla G2.out hbw.size
    have gn: ¬ g=w.heap.size+1:=by have:=G2.out;omega
    clear hr hp hbw
    have sw:=SW2.out
    have su:=SU2.out
    have se:=SE2.out
    cases W2 <;> cases U2 <;> cases E2
    all_goals
     simp only [Bool.true_and,Bool.false_and] at sw su se
     have SS:Hid (W3=_/\U3=_/\E3=_):=⟨sw,su,se⟩
     clear sw su se
     go_wp2_with fail
     go_roundw
     case rel=>rw [SS.out.1,SS.out.2.1,SS.out.2.2];exact Or.inr (Or.inr (Or.inr (Or.inl ⟨rfl,HCI.out.next _ _ _ _⟩)))
     case measure=>simp [intOf]
  . have HCI:Hid (CI w wr W3 U3 E3):=hci
    obtain ⟨r0,r1,r2,hr,hp,hbw⟩:=hci
    have zp:w.heap.size+1<wr.heap.size:=(Array.getElem?_eq_some_iff.1 hp).1
    have p0:wr.cell? ⟨w.heap.size+1,0,none⟩=some (.bool W3):=Go.Joins.cell_of_block hp 0
    have p1:wr.cell? ⟨w.heap.size+1,1,none⟩=some (.bool U3):=Go.Joins.cell_of_block hp 1
    have p2:wr.cell? ⟨w.heap.size+1,2,none⟩=some (.bool E3):=Go.Joins.cell_of_block hp 2
    have z0:wr.frozen? ⟨w.heap.size+1,0,none⟩=false:=Go.Joins.unfrozen_of_block hp 0
    have z1:wr.frozen? ⟨w.heap.size+1,1,none⟩=false:=Go.Joins.unfrozen_of_block hp 1
    have z2:wr.frozen? ⟨w.heap.size+1,2,none⟩=false:=Go.Joins.unfrozen_of_block hp 2
    have c0:wr.cell? ⟨g,36,none⟩=some (.int .u64 A3):=cell_next hbw G2.out (Q.out.2.2.2.2.2.2.2.2.2.2.2.2.2.2.2.2.2.2.2.2.2.2.2.2.2.2.2.2.2.2.2.2.2.2.2.2.1)
    have c1:wr.cell? ⟨g,37,none⟩=some (.int .u64 X3):=cell_next hbw G2.out (Q.out.2.2.2.2.2.2.2.2.2.2.2.2.2.2.2.2.2.2.2.2.2.2.2.2.2.2.2.2.2.2.2.2.2.2.2.2.2.1)
    have c2:wr.cell? ⟨g,38,none⟩=some (.bool y30):=cell_next hbw G2.out (Q.out.2.2.2.2.2.2.2.2.2.2.2.2.2.2.2.2.2.2.2.2.2.2.2.2.2.2.2.2.2.2.2.2.2.2.2.2.2.2.1)
    have c3:wr.cell? ⟨g,39,none⟩=some (.bool y31):=cell_next hbw G2.out (Q.out.2.2.2.2.2.2.2.2.2.2.2.2.2.2.2.2.2.2.2.2.2.2.2.2.2.2.2.2.2.2.2.2.2.2.2.2.2.2.2.1)
    have c4:wr.cell? ⟨g,40,none⟩=some (.bool y32):=cell_next hbw G2.out (Q.out.2.2.2.2.2.2.2.2.2.2.2.2.2.2.2.2.2.2.2.2.2.2.2.2.2.2.2.2.2.2.2.2.2.2.2.2.2.2.2.2.1)
    have c5:wr.cell? ⟨g,41,none⟩=some (.bool y33):=cell_next hbw G2.out (Q.out.2.2.2.2.2.2.2.2.2.2.2.2.2.2.2.2.2.2.2.2.2.2.2.2.2.2.2.2.2.2.2.2.2.2.2.2.2.2.2.2.2.1)
    have c6:wr.cell? ⟨g,42,none⟩=some (.bool y34):=cell_next hbw G2.out (Q.out.2.2.2.2.2.2.2.2.2.2.2.2.2.2.2.2.2.2.2.2.2.2.2.2.2.2.2.2.2.2.2.2.2.2.2.2.2.2.2.2.2.2.1)
    have c7:wr.cell? ⟨g,43,none⟩=some (.bool y35):=cell_next hbw G2.out (Q.out.2.2.2.2.2.2.2.2.2.2.2.2.2.2.2.2.2.2.2.2.2.2.2.2.2.2.2.2.2.2.2.2.2.2.2.2.2.2.2.2.2.2.2.1)
    have c8:wr.cell? ⟨g,44,none⟩=some (.bool y36):=cell_next hbw G2.out (Q.out.2.2.2.2.2.2.2.2.2.2.2.2.2.2.2.2.2.2.2.2.2.2.2.2.2.2.2.2.2.2.2.2.2.2.2.2.2.2.2.2.2.2.2.2.1)
    have c9:wr.cell? ⟨g,45,none⟩=some (.bool y37):=cell_next hbw G2.out (Q.out.2.2.2.2.2.2.2.2.2.2.2.2.2.2.2.2.2.2.2.2.2.2.2.2.2.2.2.2.2.2.2.2.2.2.2.2.2.2.2.2.2.2.2.2.2.1)
    have c10:wr.cell? ⟨g,46,none⟩=some (.int .i64 f3):=cell_next hbw G2.out (Q.out.2.2.2.2.2.2.2.2.2.2.2.2.2.2.2.2.2.2.2.2.2.2.2.2.2.2.2.2.2.2.2.2.2.2.2.2.2.2.2.2.2.2.2.2.2.2.1)
    have c11:wr.cell? ⟨g,47,none⟩=some (.int .i64 1):=cell_next hbw G2.out (Q.out.2.2.2.2.2.2.2.2.2.2.2.2.2.2.2.2.2.2.2.2.2.2.2.2.2.2.2.2.2.2.2.2.2.2.2.2.2.2.2.2.2.2.2.2.2.2.2)
    have gz:g<wr.heap.size:=nla G2.out hbw.size
    have gn: ¬ g=w.heap.size+1:=by have:=G2.out;omega
    clear hr hp hbw
    have sw:=SW3.out
    have su:=SU3.out
    have se:=SE3.out
    cases W3 <;> cases U3 <;> cases E3
    all_goals
     simp only [Bool.true_and,Bool.false_and] at sw su se
     have SS:Hid (W4=_/\U4=_/\E4=_):=⟨sw,su,se⟩
     clear sw su se
     go_wp2_with fail
     go_roundw
     case rel=>rw [SS.out.1,SS.out.2.1,SS.out.2.2];exact Or.inr (Or.inr (Or.inr (Or.inr (⟨rfl,HCI.out.next _ _ _ _⟩))))
     case measure=>simp [intOf]
  . have HCI:Hid (CI w wr W4 U4 E4):=hci
    obtain ⟨r0,r1,r2,hr,hp,hbw⟩:=hci
    have zp:w.heap.size+1<wr.heap.size:=(Array.getElem?_eq_some_iff.1 hp).1
    have p0:wr.cell? ⟨w.heap.size+1,0,none⟩=some (.bool W4):=Go.Joins.cell_of_block hp 0
    have p1:wr.cell? ⟨w.heap.size+1,1,none⟩=some (.bool U4):=Go.Joins.cell_of_block hp 1
    have p2:wr.cell? ⟨w.heap.size+1,2,none⟩=some (.bool E4):=Go.Joins.cell_of_block hp 2
    have z0:wr.frozen? ⟨w.heap.size+1,0,none⟩=false:=Go.Joins.unfrozen_of_block hp 0
    have z1:wr.frozen? ⟨w.heap.size+1,1,none⟩=false:=Go.Joins.unfrozen_of_block hp 1
    have z2:wr.frozen? ⟨w.heap.size+1,2,none⟩=false:=Go.Joins.unfrozen_of_block hp 2
    have y0:wr.cell? ⟨w.heap.size,0,none⟩=some r0:=Go.Joins.cell_of_block hr 0
    have y1:wr.cell? ⟨w.heap.size,1,none⟩=some r1:=Go.Joins.cell_of_block hr 1
    have y2:wr.cell? ⟨w.heap.size,2,none⟩=some r2:=Go.Joins.cell_of_block hr 2
    have x0:wr.frozen? ⟨w.heap.size,0,none⟩=false:=Go.Joins.unfrozen_of_block hr 0
    have x1:wr.frozen? ⟨w.heap.size,1,none⟩=false:=Go.Joins.unfrozen_of_block hr 1
    have x2:wr.frozen? ⟨w.heap.size,2,none⟩=false:=Go.Joins.unfrozen_of_block hr 2
    have HB:Hid (bc w wr):=hbw
    have HR:Hid (wr.heap[w.heap.size]? =some (.cells #[r0,r1,r2] 45 (0,0))):=hr
    clear hr hp hbw
    go_wp2_with fail
    refine bodyPost_ret (v:=.agg (sn W4 U4 E4)) ?_ rfl ?_
    . rw [results_cell1 Tryz.results66]
      exact run_loadVar_row _ w.heap.size 45 45 (sn W4 U4 E4) (0,0) _ (Go.Joins.block_setCell (i:=2) (Go.Joins.block_setCell (i:=1) (Go.Joins.block_setCell (i:=0) HR.out (.bool W4)) (.bool U4)) (.bool E4)) Tryz.underlying45 rfl perm_info
    . exact ⟨rfl,((HB.out.setCell (Nat.le_refl _) _).setCell (Nat.le_refl _) _).setCell (Nat.le_refl _) _⟩
theorem box4 (w:World) (a b c d:Obj):((((w.alloc a).alloc b).alloc c).alloc d).heap[w.heap.size]? =some a :=
 ((Go.Joins.below_alloc1 (((w.alloc a).alloc b).alloc c) d).block _ kh).trans (own3a w a b c)
theorem sz4 (w:World) (a b c d:Obj):w.heap.size<((((w.alloc a).alloc b).alloc c).alloc d).heap.size:=kh
theorem szA (w:World) (a:Obj):w.heap.size<(w.alloc a).heap.size:=by simp
theorem old1 {w:World} {b:Nat} (h:b<w.heap.size) (a:Obj):b<(w.alloc a).heap.size:=kh
theorem carry1 {w w':World} {o:Obj} {b i:Nat} {v:Value} (hb:bc (w.alloc o) w') (l:b<w.heap.size) (h:w.cell? ⟨b,i,none⟩=some v):w'.cell? ⟨b,i,none⟩=some v :=
 (hb.cell (p:=⟨b,i,none⟩) (old1 l o)).trans ((World.cell?_alloc_lt _ _ _ l).trans h)
theorem carry0 {w w':World} {b i:Nat} {v:Value} (hb:bc w w') (l:b<w.heap.size) (h:w.cell? ⟨b,i,none⟩=some v):w'.cell? ⟨b,i,none⟩=some v :=
 (hb.cell (p:=⟨b,i,none⟩) l).trans h
theorem carryN {w w':World} {C:Array Value} {t:TypeId} {i:Nat} (hb:bc (w.alloc (.cells C t)) w'):w'.cell? ⟨w.heap.size,i,none⟩=C[i]? :=
 (hb.cell (p:=⟨w.heap.size,i,none⟩) (szA w _)).trans (Go.Joins.cell_of_block (own1 w _) i)
theorem sz2a (w:World) (o p:Obj):w.heap.size<((w.alloc o).alloc p).heap.size:=kl1
theorem Tab.kept {w w':World} {K:Nat->Prop} (h:Tab w) (hb:Kept K w w') (hK:K 0):Tab w':=by
 have e:w'.heap[0]? =w.heap[0]? :=hb.block 0 hK
 have hc: ∀ i,w'.cell? ⟨0,i,none⟩=w.cell? ⟨0,i,none⟩:=fun i=>by simp [World.cell?,e]
 refine ⟨nla h.1 hb.size,?_⟩
 simp only [hc]
 exact h.2
theorem way_block {w:World} {base n g cap:Nat} {xs:List Value} (h:(.slice (some ⟨g,0,none⟩) n cap:Value)=.slice none 0 0/\n=0 \/
 ∃ g' cap' cur,(.slice (some ⟨g,0,none⟩) n cap:Value)=.slice (some ⟨g',0,none⟩) n cap'/\base<=g'/\w.heap[g']? =some (.cells cur 167 (0,0))/\n<=cap'/\cap'<=maxLen/\cur.size=cap'*12/\cur.toList.take (n*12)=xs) (hg:g<w.heap.size) :
  ∃ cur,w.heap[g]? =some (.cells cur 167 (0,0))/\ ∀ (j:Nat) (x:Value),xs[j]? =some x->cur[j]? =some x:=by
 rcases h with ⟨h,_⟩ | ⟨g',cap',cur,e1,e2,e3,e4,e5,e6,e7⟩
 . cases h
 . cases e1
   refine ⟨cur,e3,fun j x hx=> ?_⟩
   rw [<- e7,List.getElem?_take] at hx
   split at hx
   . rw [Array.getElem?_toList] at hx;exact hx
   . cases hx
theorem mark4r {K:Nat->Prop} {rb m:Nat} {has:Int->Bool} {F:Int} {M:Int->Int} (hm:m+100<maxLen) (A0 X0 f0:Int) (y00 y01 y02 y03 y04 y05 y06 y07:Bool) (A1 X1 f1:Int) (y10 y11 y12 y13 y14 y15 y16 y17:Bool) (A2 X2 f2:Int) (y20 y21 y22 y23 y24 y26 y27:Bool) (A3 X3 f3:Int) (y30 y31 y32 y33 y34 y35 y36 y37:Bool) (Y0 Y1 Y2 Y3:Int) (a0:0<=A0) (b0:A0<18446744073709551616) (k0:chkG has A0 8=0) (o0:bits .or .u64 X0 32=Y0) (c0:0<=Y0) (d0:Y0<18446744073709551616) (a1:0<=A1) (b1:A1<18446744073709551616) (k1:chkG has A1 8=0) (o1:bits .or .u64 X1 32=Y1) (c1:0<=Y1) (d1:Y1<18446744073709551616) (a2:0<=A2) (b2:A2<18446744073709551616) (k2:chkG has A2 8=0) (o2:bits .or .u64 X2 32=Y2) (c2:0<=Y2) (d2:Y2<18446744073709551616) (a3:0<=A3) (b3:A3<18446744073709551616) (k3:chkG has A3 8=0) (o3:bits .or .u64 X3 32=Y3) (c3:0<=Y3) (d3:Y3<18446744073709551616)
 (base:Nat) (v:Value) (w:World) (h:Way w base v 4 ((((([]:List Value)++((sc1 A0 X0 y00 y01 y02 y03 y04 y05 y06 y07 f0 4):List Value))++((sc1 A1 X1 y10 y11 y12 y13 y14 y15 y16 y17 f1 3):List Value))++((sc1 A2 X2 y20 y21 y22 y23 y24 false y26 y27 f2 2):List Value))++((sc1 A3 X3 y30 y31 y32 y33 y34 y35 y36 y37 f3 1):List Value))) (hK: ∀ j,base<=j->j<w.heap.size->K j) (k0':K 0) (ht:Tab w) (hI:IsRamK w K rb has F M m) :
 Calls Tryz.prog 68 #[.pointer (some ⟨rb,0,none⟩),v,.bool false] w fun e w'=>e=.returned (.tuple #[])/\IsRamK w' K rb has F (mset (mset (mset (mset M A0 8 Y0) A1 8 Y1) A2 8 Y2) A3 8 Y3) (m+8)/\Kept K w w'/\Tab w':=by
 obtain ⟨⟨hlen,hrow⟩,g,cap,rfl,hg1,hg2⟩:=h
 obtain ⟨cur,hcur,hcx⟩:=way_block hrow hg2
 have KG:Hid (K g):=hK g hg1 hg2
 have KZ:Hid (K 0):=k0'
 have C0:Hid (w.heap[g]? =some (.cells cur 167 (0,0))):=hcur
 have CX:Hid (∀ (j:Nat) (x:Value),((((([]:List Value)++((sc1 A0 X0 y00 y01 y02 y03 y04 y05 y06 y07 f0 4):List Value))++((sc1 A1 X1 y10 y11 y12 y13 y14 y15 y16 y17 f1 3):List Value))++((sc1 A2 X2 y20 y21 y22 y23 y24 false y26 y27 f2 2):List Value))++((sc1 A3 X3 y30 y31 y32 y33 y34 y35 y36 y37 f3 1):List Value))[j]? =some x->cur[j]? =some x):=hcx
 have T0:Hid (Tab w):=ht
 have I0:Hid (IsRamK w K rb has F M m):=hI
 have P:Hid (∀ w:World,Tab w->Calls Tryz.prog 50 #[.agg (sd false false false true false false false false 0)] w (re (.tuple #[.int .u64 32,.int .i64 0]) w)):=fun w ht=>pack_ok false false false true false false false false 0 (by omega) (by omega) w ht
 have P':Hid (∀ w:World,Tab w->Calls Tryz.prog 50 #[.agg (sd false false false true true false false false 0)] w (re (.tuple #[.int .u64 96,.int .i64 0]) w)):=fun w ht=>pack_ok false false false true true false false false 0 (by omega) (by omega) w ht
 have S0:Hid (∀ w:World,IsRamK w K rb has F M (m+0)->Calls Tryz.prog 39 #[.pointer (some ⟨rb,0,none⟩),.int .u64 A0,.int .i64 8,.int .u64 Y0] w fun e w'=>e=.returned (.int .i64 0)/\IsRamK w' K rb has F (mset M A0 8 Y0) (m+2)/\Kept K w w'):=fun w h=>store_K h (by omega) A0 8 Y0 a0 b0 k0 c0 d0
 have S1:Hid (∀ w:World,IsRamK w K rb has F (mset M A0 8 Y0) (m+2)->Calls Tryz.prog 39 #[.pointer (some ⟨rb,0,none⟩),.int .u64 A1,.int .i64 8,.int .u64 Y1] w fun e w'=>e=.returned (.int .i64 0)/\IsRamK w' K rb has F (mset (mset M A0 8 Y0) A1 8 Y1) (m+4)/\Kept K w w'):=fun w h=>store_K h (by omega) A1 8 Y1 a1 b1 k1 c1 d1
 have S2:Hid (∀ w:World,IsRamK w K rb has F (mset (mset M A0 8 Y0) A1 8 Y1) (m+4)->Calls Tryz.prog 39 #[.pointer (some ⟨rb,0,none⟩),.int .u64 A2,.int .i64 8,.int .u64 Y2] w fun e w'=>e=.returned (.int .i64 0)/\IsRamK w' K rb has F (mset (mset (mset M A0 8 Y0) A1 8 Y1) A2 8 Y2) (m+6)/\Kept K w w'):=fun w h=>store_K h (by omega) A2 8 Y2 a2 b2 k2 c2 d2
 have S3:Hid (∀ w:World,IsRamK w K rb has F (mset (mset (mset M A0 8 Y0) A1 8 Y1) A2 8 Y2) (m+6)->Calls Tryz.prog 39 #[.pointer (some ⟨rb,0,none⟩),.int .u64 A3,.int .i64 8,.int .u64 Y3] w fun e w'=>e=.returned (.int .i64 0)/\IsRamK w' K rb has F (mset (mset (mset (mset M A0 8 Y0) A1 8 Y1) A2 8 Y2) A3 8 Y3) (m+8)/\Kept K w w'):=fun w h=>store_K h (by omega) A3 8 Y3 a3 b3 k3 c3 d3
 have q0_0:w.cell? ⟨g,0,none⟩=some (.int .u64 A0):=(Go.Joins.cell_of_block hcur 0).trans (hcx 0 _ rfl)
 have q0_1:w.cell? ⟨g,1,none⟩=some (.int .u64 X0):=(Go.Joins.cell_of_block hcur 1).trans (hcx 1 _ rfl)
 have q0_2:w.cell? ⟨g,2,none⟩=some (.bool y00):=(Go.Joins.cell_of_block hcur 2).trans (hcx 2 _ rfl)
 have q0_3:w.cell? ⟨g,3,none⟩=some (.bool y01):=(Go.Joins.cell_of_block hcur 3).trans (hcx 3 _ rfl)
 have q0_4:w.cell? ⟨g,4,none⟩=some (.bool y02):=(Go.Joins.cell_of_block hcur 4).trans (hcx 4 _ rfl)
 have q0_5:w.cell? ⟨g,5,none⟩=some (.bool y03):=(Go.Joins.cell_of_block hcur 5).trans (hcx 5 _ rfl)
 have q0_6:w.cell? ⟨g,6,none⟩=some (.bool y04):=(Go.Joins.cell_of_block hcur 6).trans (hcx 6 _ rfl)
 have q0_7:w.cell? ⟨g,7,none⟩=some (.bool y05):=(Go.Joins.cell_of_block hcur 7).trans (hcx 7 _ rfl)
 have q0_8:w.cell? ⟨g,8,none⟩=some (.bool y06):=(Go.Joins.cell_of_block hcur 8).trans (hcx 8 _ rfl)
 have q0_9:w.cell? ⟨g,9,none⟩=some (.bool y07):=(Go.Joins.cell_of_block hcur 9).trans (hcx 9 _ rfl)
 have q0_10:w.cell? ⟨g,10,none⟩=some (.int .i64 f0):=(Go.Joins.cell_of_block hcur 10).trans (hcx 10 _ rfl)
 have q0_11:w.cell? ⟨g,11,none⟩=some (.int .i64 4):=(Go.Joins.cell_of_block hcur 11).trans (hcx 11 _ rfl)
 clear hcur hcx hrow hlen hK k0' ht hI a0 b0 k0 c0 d0 a1 b1 k1 c1 d1 a2 b2 k2 c2 d2 a3 b3 k3 c3 d3
 go_enter Tryz.func68,Tryz.ntmps68
 go_wp2_with fail
 refine wp_loop_rounds 5 ?_
 rw [rounds_succ]
 go_wp2_with fail
 refine (P.out _ (T0.out.keep (Go.Joins.below_alloc2 _ _ _))).mono ?_
 rintro e u0 ⟨rfl,hb⟩
 have BU0:Hid (bc w u0):=below_then (Go.Joins.below_alloc2 _ _ _) hb
 have us0_0:u0.cell? ⟨w.heap.size,0,none⟩=some (.int .u64 A0):=cell_next hb (sz2a w _ _) (Go.Joins.cell_of_block (own2a w _ _) 0)
 have us0_1:u0.cell? ⟨w.heap.size,1,none⟩=some (.int .u64 X0):=cell_next hb (sz2a w _ _) (Go.Joins.cell_of_block (own2a w _ _) 1)
 clear hb q0_0 q0_1 q0_2 q0_3 q0_4 q0_5 q0_6 q0_7 q0_8 q0_9 q0_10 q0_11
 go_wp2_with fail
 refine (S0.out _ (I0.out.grown (grown_of_below' BU0.out))).mono ?_
 rintro e w1 ⟨rfl,hI,hk⟩
 have I1:Hid (IsRamK w1 K rb has F (mset M A0 8 Y0) (m+2)):=hI
 have C1:Hid (w1.heap[g]? =some (.cells cur 167 (0,0))):=(hk.block g KG.out).trans ((BU0.out.block g (Array.getElem?_eq_some_iff.1 C0.out).1).trans C0.out)
 have T1:Hid (Tab w1):=(T0.out.keep BU0.out).kept hk KZ.out
 have N1:Hid (Kept K w w1):=Kept.trans (kept_of_below BU0.out I0.out.dom) hk
 have q1_0:w1.cell? ⟨g,12,none⟩=some (.int .u64 A1):=(Go.Joins.cell_of_block C1.out 12).trans (CX.out 12 _ rfl)
 have q1_1:w1.cell? ⟨g,13,none⟩=some (.int .u64 X1):=(Go.Joins.cell_of_block C1.out 13).trans (CX.out 13 _ rfl)
 have q1_2:w1.cell? ⟨g,14,none⟩=some (.bool y10):=(Go.Joins.cell_of_block C1.out 14).trans (CX.out 14 _ rfl)
 have q1_3:w1.cell? ⟨g,15,none⟩=some (.bool y11):=(Go.Joins.cell_of_block C1.out 15).trans (CX.out 15 _ rfl)
 have q1_4:w1.cell? ⟨g,16,none⟩=some (.bool y12):=(Go.Joins.cell_of_block C1.out 16).trans (CX.out 16 _ rfl)
 have q1_5:w1.cell? ⟨g,17,none⟩=some (.bool y13):=(Go.Joins.cell_of_block C1.out 17).trans (CX.out 17 _ rfl)
 have q1_6:w1.cell? ⟨g,18,none⟩=some (.bool y14):=(Go.Joins.cell_of_block C1.out 18).trans (CX.out 18 _ rfl)
 have q1_7:w1.cell? ⟨g,19,none⟩=some (.bool y15):=(Go.Joins.cell_of_block C1.out 19).trans (CX.out 19 _ rfl)
 have q1_8:w1.cell? ⟨g,20,none⟩=some (.bool y16):=(Go.Joins.cell_of_block C1.out 20).trans (CX.out 20 _ rfl)
 have q1_9:w1.cell? ⟨g,21,none⟩=some (.bool y17):=(Go.Joins.cell_of_block C1.out 21).trans (CX.out 21 _ rfl)
 have q1_10:w1.cell? ⟨g,22,none⟩=some (.int .i64 f1):=(Go.Joins.cell_of_block C1.out 22).trans (CX.out 22 _ rfl)
 have q1_11:w1.cell? ⟨g,23,none⟩=some (.int .i64 3):=(Go.Joins.cell_of_block C1.out 23).trans (CX.out 23 _ rfl)
 have gz1:g<w1.heap.size:=(Array.getElem?_eq_some_iff.1 C1.out).1
 clear hI hk us0_0 us0_1 BU0 I0 C0 S0
 go_wp2_with fail
 rw [rounds_succ]
 go_wp2_with fail
 refine (P.out _ (T1.out.keep (Go.Joins.below_alloc2 _ _ _))).mono ?_
 rintro e u1 ⟨rfl,hb⟩
 have BU1:Hid (bc w1 u1):=below_then (Go.Joins.below_alloc2 _ _ _) hb
 have us1_0:u1.cell? ⟨w1.heap.size,0,none⟩=some (.int .u64 A1):=cell_next hb (sz2a w1 _ _) (Go.Joins.cell_of_block (own2a w1 _ _) 0)
 have us1_1:u1.cell? ⟨w1.heap.size,1,none⟩=some (.int .u64 X1):=cell_next hb (sz2a w1 _ _) (Go.Joins.cell_of_block (own2a w1 _ _) 1)
 clear hb q1_0 q1_1 q1_2 q1_3 q1_4 q1_5 q1_6 q1_7 q1_8 q1_9 q1_10 q1_11
 go_wp2_with fail
 refine (S1.out _ (I1.out.grown (grown_of_below' BU1.out))).mono ?_
 rintro e w2 ⟨rfl,hI,hk⟩
 have I2:Hid (IsRamK w2 K rb has F (mset (mset M A0 8 Y0) A1 8 Y1) (m+4)):=hI
 have C2:Hid (w2.heap[g]? =some (.cells cur 167 (0,0))):=(hk.block g KG.out).trans ((BU1.out.block g (Array.getElem?_eq_some_iff.1 C1.out).1).trans C1.out)
 have T2:Hid (Tab w2):=(T1.out.keep BU1.out).kept hk KZ.out
 have N2:Hid (Kept K w w2):=(N1.out.trans (kept_of_below BU1.out I1.out.dom)).trans hk
 have q2_0:w2.cell? ⟨g,24,none⟩=some (.int .u64 A2):=(Go.Joins.cell_of_block C2.out 24).trans (CX.out 24 _ rfl)
 have q2_1:w2.cell? ⟨g,25,none⟩=some (.int .u64 X2):=(Go.Joins.cell_of_block C2.out 25).trans (CX.out 25 _ rfl)
 have q2_2:w2.cell? ⟨g,26,none⟩=some (.bool y20):=(Go.Joins.cell_of_block C2.out 26).trans (CX.out 26 _ rfl)
 have q2_3:w2.cell? ⟨g,27,none⟩=some (.bool y21):=(Go.Joins.cell_of_block C2.out 27).trans (CX.out 27 _ rfl)
 have q2_4:w2.cell? ⟨g,28,none⟩=some (.bool y22):=(Go.Joins.cell_of_block C2.out 28).trans (CX.out 28 _ rfl)
 have q2_5:w2.cell? ⟨g,29,none⟩=some (.bool y23):=(Go.Joins.cell_of_block C2.out 29).trans (CX.out 29 _ rfl)
 have q2_6:w2.cell? ⟨g,30,none⟩=some (.bool y24):=(Go.Joins.cell_of_block C2.out 30).trans (CX.out 30 _ rfl)
 have q2_7:w2.cell? ⟨g,31,none⟩=some (.bool false):=(Go.Joins.cell_of_block C2.out 31).trans (CX.out 31 _ rfl)
 have q2_8:w2.cell? ⟨g,32,none⟩=some (.bool y26):=(Go.Joins.cell_of_block C2.out 32).trans (CX.out 32 _ rfl)
 have q2_9:w2.cell? ⟨g,33,none⟩=some (.bool y27):=(Go.Joins.cell_of_block C2.out 33).trans (CX.out 33 _ rfl)
 have q2_10:w2.cell? ⟨g,34,none⟩=some (.int .i64 f2):=(Go.Joins.cell_of_block C2.out 34).trans (CX.out 34 _ rfl)
 have q2_11:w2.cell? ⟨g,35,none⟩=some (.int .i64 2):=(Go.Joins.cell_of_block C2.out 35).trans (CX.out 35 _ rfl)
 have gz2:g<w2.heap.size:=(Array.getElem?_eq_some_iff.1 C2.out).1
 clear hI hk us1_0 us1_1 BU1 I1 C1 S1
 go_wp2_with fail
 rw [rounds_succ]
 go_wp2_with fail
 refine (P.out _ (T2.out.keep (Go.Joins.below_alloc2 _ _ _))).mono ?_
 rintro e u2 ⟨rfl,hb⟩
 have BU2:Hid (bc w2 u2):=below_then (Go.Joins.below_alloc2 _ _ _) hb
 have us2_0:u2.cell? ⟨w2.heap.size,0,none⟩=some (.int .u64 A2):=cell_next hb (sz2a w2 _ _) (Go.Joins.cell_of_block (own2a w2 _ _) 0)
 have us2_1:u2.cell? ⟨w2.heap.size,1,none⟩=some (.int .u64 X2):=cell_next hb (sz2a w2 _ _) (Go.Joins.cell_of_block (own2a w2 _ _) 1)
 clear hb q2_0 q2_1 q2_2 q2_3 q2_4 q2_5 q2_6 q2_7 q2_8 q2_9 q2_10 q2_11
 go_wp2_with fail
 refine (S2.out _ (I2.out.grown (grown_of_below' BU2.out))).mono ?_
 rintro e w3 ⟨rfl,hI,hk⟩
 have I3:Hid (IsRamK w3 K rb has F (mset (mset (mset M A0 8 Y0) A1 8 Y1) A2 8 Y2) (m+6)):=hI
 have C3:Hid (w3.heap[g]? =some (.cells cur 167 (0,0))):=(hk.block g KG.out).trans ((BU2.out.block g (Array.getElem?_eq_some_iff.1 C2.out).1).trans C2.out)
 have T3:Hid (Tab w3):=(T2.out.keep BU2.out).kept hk KZ.out
 have N3:Hid (Kept K w w3):=(N2.out.trans (kept_of_below BU2.out I2.out.dom)).trans hk
 have q3_0:w3.cell? ⟨g,36,none⟩=some (.int .u64 A3):=(Go.Joins.cell_of_block C3.out 36).trans (CX.out 36 _ rfl)
 have q3_1:w3.cell? ⟨g,37,none⟩=some (.int .u64 X3):=(Go.Joins.cell_of_block C3.out 37).trans (CX.out 37 _ rfl)
 have q3_2:w3.cell? ⟨g,38,none⟩=some (.bool y30):=(Go.Joins.cell_of_block C3.out 38).trans (CX.out 38 _ rfl)
 have q3_3:w3.cell? ⟨g,39,none⟩=some (.bool y31):=(Go.Joins.cell_of_block C3.out 39).trans (CX.out 39 _ rfl)
 have q3_4:w3.cell? ⟨g,40,none⟩=some (.bool y32):=(Go.Joins.cell_of_block C3.out 40).trans (CX.out 40 _ rfl)
 have q3_5:w3.cell? ⟨g,41,none⟩=some (.bool y33):=(Go.Joins.cell_of_block C3.out 41).trans (CX.out 41 _ rfl)
 have q3_6:w3.cell? ⟨g,42,none⟩=some (.bool y34):=(Go.Joins.cell_of_block C3.out 42).trans (CX.out 42 _ rfl)
 have q3_7:w3.cell? ⟨g,43,none⟩=some (.bool y35):=(Go.Joins.cell_of_block C3.out 43).trans (CX.out 43 _ rfl)
 have q3_8:w3.cell? ⟨g,44,none⟩=some (.bool y36):=(Go.Joins.cell_of_block C3.out 44).trans (CX.out 44 _ rfl)
 have q3_9:w3.cell? ⟨g,45,none⟩=some (.bool y37):=(Go.Joins.cell_of_block C3.out 45).trans (CX.out 45 _ rfl)
 have q3_10:w3.cell? ⟨g,46,none⟩=some (.int .i64 f3):=(Go.Joins.cell_of_block C3.out 46).trans (CX.out 46 _ rfl)
 have q3_11:w3.cell? ⟨g,47,none⟩=some (.int .i64 1):=(Go.Joins.cell_of_block C3.out 47).trans (CX.out 47 _ rfl)
 have gz3:g<w3.heap.size:=(Array.getElem?_eq_some_iff.1 C3.out).1
 clear hI hk us2_0 us2_1 BU2 I2 C2 S2
 go_wp2_with fail
 rw [rounds_succ]
 go_wp2_with fail
 refine (P.out _ (T3.out.keep (Go.Joins.below_alloc2 _ _ _))).mono ?_
 rintro e u3 ⟨rfl,hb⟩
 have BU3:Hid (bc w3 u3):=below_then (Go.Joins.below_alloc2 _ _ _) hb
 have us3_0:u3.cell? ⟨w3.heap.size,0,none⟩=some (.int .u64 A3):=cell_next hb (sz2a w3 _ _) (Go.Joins.cell_of_block (own2a w3 _ _) 0)
 have us3_1:u3.cell? ⟨w3.heap.size,1,none⟩=some (.int .u64 X3):=cell_next hb (sz2a w3 _ _) (Go.Joins.cell_of_block (own2a w3 _ _) 1)
 clear hb q3_0 q3_1 q3_2 q3_3 q3_4 q3_5 q3_6 q3_7 q3_8 q3_9 q3_10 q3_11
 go_wp2_with fail
 refine (S3.out _ (I3.out.grown (grown_of_below' BU3.out))).mono ?_
 rintro e w4 ⟨rfl,hI,hk⟩
 have I4:Hid (IsRamK w4 K rb has F (mset (mset (mset (mset M A0 8 Y0) A1 8 Y1) A2 8 Y2) A3 8 Y3) (m+8)):=hI
 have C4:Hid (w4.heap[g]? =some (.cells cur 167 (0,0))):=(hk.block g KG.out).trans ((BU3.out.block g (Array.getElem?_eq_some_iff.1 C3.out).1).trans C3.out)
 have T4:Hid (Tab w4):=(T3.out.keep BU3.out).kept hk KZ.out
 have N4:Hid (Kept K w w4):=(N3.out.trans (kept_of_below BU3.out I3.out.dom)).trans hk
 clear hI hk us3_0 us3_1 BU3 I3 C3 S3
 go_wp2_with fail
 rw [rounds_succ]
 go_wp2_with fail
 go_end0
 exact ⟨rfl,I4.out,N4.out,T4.out⟩
theorem mark4w {K:Nat->Prop} {rb m:Nat} {has:Int->Bool} {F:Int} {M:Int->Int} (hm:m+100<maxLen) (A0 X0 f0:Int) (y00 y01 y02 y03 y04 y05 y06 y07:Bool) (A1 X1 f1:Int) (y10 y11 y12 y13 y14 y15 y16 y17:Bool) (A2 X2 f2:Int) (y20 y21 y22 y23 y24 y26 y27:Bool) (A3 X3 f3:Int) (y30 y31 y32 y33 y34 y35 y36 y37:Bool) (Y0 Y1 Y2 Y3:Int) (a0:0<=A0) (b0:A0<18446744073709551616) (k0:chkG has A0 8=0) (o0:bits .or .u64 X0 32=Y0) (c0:0<=Y0) (d0:Y0<18446744073709551616) (a1:0<=A1) (b1:A1<18446744073709551616) (k1:chkG has A1 8=0) (o1:bits .or .u64 X1 32=Y1) (c1:0<=Y1) (d1:Y1<18446744073709551616) (a2:0<=A2) (b2:A2<18446744073709551616) (k2:chkG has A2 8=0) (o2:bits .or .u64 X2 32=Y2) (c2:0<=Y2) (d2:Y2<18446744073709551616) (a3:0<=A3) (b3:A3<18446744073709551616) (k3:chkG has A3 8=0) (o3:bits .or .u64 X3 96=Y3) (c3:0<=Y3) (d3:Y3<18446744073709551616)
 (base:Nat) (v:Value) (w:World) (h:Way w base v 4 ((((([]:List Value)++((sc1 A0 X0 y00 y01 y02 y03 y04 y05 y06 y07 f0 4):List Value))++((sc1 A1 X1 y10 y11 y12 y13 y14 y15 y16 y17 f1 3):List Value))++((sc1 A2 X2 y20 y21 y22 y23 y24 false y26 y27 f2 2):List Value))++((sc1 A3 X3 y30 y31 y32 y33 y34 y35 y36 y37 f3 1):List Value))) (hK: ∀ j,base<=j->j<w.heap.size->K j) (k0':K 0) (ht:Tab w) (hI:IsRamK w K rb has F M m) :
 Calls Tryz.prog 68 #[.pointer (some ⟨rb,0,none⟩),v,.bool true] w fun e w'=>e=.returned (.tuple #[])/\IsRamK w' K rb has F (mset (mset (mset (mset M A0 8 Y0) A1 8 Y1) A2 8 Y2) A3 8 Y3) (m+8)/\Kept K w w'/\Tab w':=by
 obtain ⟨⟨hlen,hrow⟩,g,cap,rfl,hg1,hg2⟩:=h
 obtain ⟨cur,hcur,hcx⟩:=way_block hrow hg2
 have KG:Hid (K g):=hK g hg1 hg2
 have KZ:Hid (K 0):=k0'
 have C0:Hid (w.heap[g]? =some (.cells cur 167 (0,0))):=hcur
 have CX:Hid (∀ (j:Nat) (x:Value),((((([]:List Value)++((sc1 A0 X0 y00 y01 y02 y03 y04 y05 y06 y07 f0 4):List Value))++((sc1 A1 X1 y10 y11 y12 y13 y14 y15 y16 y17 f1 3):List Value))++((sc1 A2 X2 y20 y21 y22 y23 y24 false y26 y27 f2 2):List Value))++((sc1 A3 X3 y30 y31 y32 y33 y34 y35 y36 y37 f3 1):List Value))[j]? =some x->cur[j]? =some x):=hcx
 have T0:Hid (Tab w):=ht
 have I0:Hid (IsRamK w K rb has F M m):=hI
 have P:Hid (∀ w:World,Tab w->Calls Tryz.prog 50 #[.agg (sd false false false true false false false false 0)] w (re (.tuple #[.int .u64 32,.int .i64 0]) w)):=fun w ht=>pack_ok false false false true false false false false 0 (by omega) (by omega) w ht
 have P':Hid (∀ w:World,Tab w->Calls Tryz.prog 50 #[.agg (sd false false false true true false false false 0)] w (re (.tuple #[.int .u64 96,.int .i64 0]) w)):=fun w ht=>pack_ok false false false true true false false false 0 (by omega) (by omega) w ht
 have S0:Hid (∀ w:World,IsRamK w K rb has F M (m+0)->Calls Tryz.prog 39 #[.pointer (some ⟨rb,0,none⟩),.int .u64 A0,.int .i64 8,.int .u64 Y0] w fun e w'=>e=.returned (.int .i64 0)/\IsRamK w' K rb has F (mset M A0 8 Y0) (m+2)/\Kept K w w'):=fun w h=>store_K h (by omega) A0 8 Y0 a0 b0 k0 c0 d0
 have S1:Hid (∀ w:World,IsRamK w K rb has F (mset M A0 8 Y0) (m+2)->Calls Tryz.prog 39 #[.pointer (some ⟨rb,0,none⟩),.int .u64 A1,.int .i64 8,.int .u64 Y1] w fun e w'=>e=.returned (.int .i64 0)/\IsRamK w' K rb has F (mset (mset M A0 8 Y0) A1 8 Y1) (m+4)/\Kept K w w'):=fun w h=>store_K h (by omega) A1 8 Y1 a1 b1 k1 c1 d1
 have S2:Hid (∀ w:World,IsRamK w K rb has F (mset (mset M A0 8 Y0) A1 8 Y1) (m+4)->Calls Tryz.prog 39 #[.pointer (some ⟨rb,0,none⟩),.int .u64 A2,.int .i64 8,.int .u64 Y2] w fun e w'=>e=.returned (.int .i64 0)/\IsRamK w' K rb has F (mset (mset (mset M A0 8 Y0) A1 8 Y1) A2 8 Y2) (m+6)/\Kept K w w'):=fun w h=>store_K h (by omega) A2 8 Y2 a2 b2 k2 c2 d2
 have S3:Hid (∀ w:World,IsRamK w K rb has F (mset (mset (mset M A0 8 Y0) A1 8 Y1) A2 8 Y2) (m+6)->Calls Tryz.prog 39 #[.pointer (some ⟨rb,0,none⟩),.int .u64 A3,.int .i64 8,.int .u64 Y3] w fun e w'=>e=.returned (.int .i64 0)/\IsRamK w' K rb has F (mset (mset (mset (mset M A0 8 Y0) A1 8 Y1) A2 8 Y2) A3 8 Y3) (m+8)/\Kept K w w'):=fun w h=>store_K h (by omega) A3 8 Y3 a3 b3 k3 c3 d3
 have q0_0:w.cell? ⟨g,0,none⟩=some (.int .u64 A0):=(Go.Joins.cell_of_block hcur 0).trans (hcx 0 _ rfl)
 have q0_1:w.cell? ⟨g,1,none⟩=some (.int .u64 X0):=(Go.Joins.cell_of_block hcur 1).trans (hcx 1 _ rfl)
 have q0_2:w.cell? ⟨g,2,none⟩=some (.bool y00):=(Go.Joins.cell_of_block hcur 2).trans (hcx 2 _ rfl)
 have q0_3:w.cell? ⟨g,3,none⟩=some (.bool y01):=(Go.Joins.cell_of_block hcur 3).trans (hcx 3 _ rfl)
 have q0_4:w.cell? ⟨g,4,none⟩=some (.bool y02):=(Go.Joins.cell_of_block hcur 4).trans (hcx 4 _ rfl)
 have q0_5:w.cell? ⟨g,5,none⟩=some (.bool y03):=(Go.Joins.cell_of_block hcur 5).trans (hcx 5 _ rfl)
 have q0_6:w.cell? ⟨g,6,none⟩=some (.bool y04):=(Go.Joins.cell_of_block hcur 6).trans (hcx 6 _ rfl)
 have q0_7:w.cell? ⟨g,7,none⟩=some (.bool y05):=(Go.Joins.cell_of_block hcur 7).trans (hcx 7 _ rfl)
 have q0_8:w.cell? ⟨g,8,none⟩=some (.bool y06):=(Go.Joins.cell_of_block hcur 8).trans (hcx 8 _ rfl)
 have q0_9:w.cell? ⟨g,9,none⟩=some (.bool y07):=(Go.Joins.cell_of_block hcur 9).trans (hcx 9 _ rfl)
 have q0_10:w.cell? ⟨g,10,none⟩=some (.int .i64 f0):=(Go.Joins.cell_of_block hcur 10).trans (hcx 10 _ rfl)
 have q0_11:w.cell? ⟨g,11,none⟩=some (.int .i64 4):=(Go.Joins.cell_of_block hcur 11).trans (hcx 11 _ rfl)
 clear hcur hcx hrow hlen hK k0' ht hI a0 b0 k0 c0 d0 a1 b1 k1 c1 d1 a2 b2 k2 c2 d2 a3 b3 k3 c3 d3
 go_enter Tryz.func68,Tryz.ntmps68
 go_wp2_with fail
 refine wp_loop_rounds 5 ?_
 rw [rounds_succ]
 go_wp2_with fail
 refine (P.out _ (T0.out.keep (Go.Joins.below_alloc2 _ _ _))).mono ?_
 rintro e u0 ⟨rfl,hb⟩
 have BU0:Hid (bc w u0):=below_then (Go.Joins.below_alloc2 _ _ _) hb
 have us0_0:u0.cell? ⟨w.heap.size,0,none⟩=some (.int .u64 A0):=cell_next hb (sz2a w _ _) (Go.Joins.cell_of_block (own2a w _ _) 0)
 have us0_1:u0.cell? ⟨w.heap.size,1,none⟩=some (.int .u64 X0):=cell_next hb (sz2a w _ _) (Go.Joins.cell_of_block (own2a w _ _) 1)
 clear hb q0_0 q0_1 q0_2 q0_3 q0_4 q0_5 q0_6 q0_7 q0_8 q0_9 q0_10 q0_11
 go_wp2_with fail
 refine (S0.out _ (I0.out.grown (grown_of_below' BU0.out))).mono ?_
 rintro e w1 ⟨rfl,hI,hk⟩
 have I1:Hid (IsRamK w1 K rb has F (mset M A0 8 Y0) (m+2)):=hI
 have C1:Hid (w1.heap[g]? =some (.cells cur 167 (0,0))):=(hk.block g KG.out).trans ((BU0.out.block g (Array.getElem?_eq_some_iff.1 C0.out).1).trans C0.out)
 have T1:Hid (Tab w1):=(T0.out.keep BU0.out).kept hk KZ.out
 have N1:Hid (Kept K w w1):=Kept.trans (kept_of_below BU0.out I0.out.dom) hk
 have q1_0:w1.cell? ⟨g,12,none⟩=some (.int .u64 A1):=(Go.Joins.cell_of_block C1.out 12).trans (CX.out 12 _ rfl)
 have q1_1:w1.cell? ⟨g,13,none⟩=some (.int .u64 X1):=(Go.Joins.cell_of_block C1.out 13).trans (CX.out 13 _ rfl)
 have q1_2:w1.cell? ⟨g,14,none⟩=some (.bool y10):=(Go.Joins.cell_of_block C1.out 14).trans (CX.out 14 _ rfl)
 have q1_3:w1.cell? ⟨g,15,none⟩=some (.bool y11):=(Go.Joins.cell_of_block C1.out 15).trans (CX.out 15 _ rfl)
 have q1_4:w1.cell? ⟨g,16,none⟩=some (.bool y12):=(Go.Joins.cell_of_block C1.out 16).trans (CX.out 16 _ rfl)
 have q1_5:w1.cell? ⟨g,17,none⟩=some (.bool y13):=(Go.Joins.cell_of_block C1.out 17).trans (CX.out 17 _ rfl)
 have q1_6:w1.cell? ⟨g,18,none⟩=some (.bool y14):=(Go.Joins.cell_of_block C1.out 18).trans (CX.out 18 _ rfl)
 have q1_7:w1.cell? ⟨g,19,none⟩=some (.bool y15):=(Go.Joins.cell_of_block C1.out 19).trans (CX.out 19 _ rfl)
 have q1_8:w1.cell? ⟨g,20,none⟩=some (.bool y16):=(Go.Joins.cell_of_block C1.out 20).trans (CX.out 20 _ rfl)
 have q1_9:w1.cell? ⟨g,21,none⟩=some (.bool y17):=(Go.Joins.cell_of_block C1.out 21).trans (CX.out 21 _ rfl)
 have q1_10:w1.cell? ⟨g,22,none⟩=some (.int .i64 f1):=(Go.Joins.cell_of_block C1.out 22).trans (CX.out 22 _ rfl)
 have q1_11:w1.cell? ⟨g,23,none⟩=some (.int .i64 3):=(Go.Joins.cell_of_block C1.out 23).trans (CX.out 23 _ rfl)
 have gz1:g<w1.heap.size:=(Array.getElem?_eq_some_iff.1 C1.out).1
 clear hI hk us0_0 us0_1 BU0 I0 C0 S0
 go_wp2_with fail
 rw [rounds_succ]
 go_wp2_with fail
 refine (P.out _ (T1.out.keep (Go.Joins.below_alloc2 _ _ _))).mono ?_
 rintro e u1 ⟨rfl,hb⟩
 have BU1:Hid (bc w1 u1):=below_then (Go.Joins.below_alloc2 _ _ _) hb
 have us1_0:u1.cell? ⟨w1.heap.size,0,none⟩=some (.int .u64 A1):=cell_next hb (sz2a w1 _ _) (Go.Joins.cell_of_block (own2a w1 _ _) 0)
 have us1_1:u1.cell? ⟨w1.heap.size,1,none⟩=some (.int .u64 X1):=cell_next hb (sz2a w1 _ _) (Go.Joins.cell_of_block (own2a w1 _ _) 1)
 clear hb q1_0 q1_1 q1_2 q1_3 q1_4 q1_5 q1_6 q1_7 q1_8 q1_9 q1_10 q1_11
 go_wp2_with fail
 refine (S1.out _ (I1.out.grown (grown_of_below' BU1.out))).mono ?_
 rintro e w2 ⟨rfl,hI,hk⟩
 have I2:Hid (IsRamK w2 K rb has F (mset (mset M A0 8 Y0) A1 8 Y1) (m+4)):=hI
 have C2:Hid (w2.heap[g]? =some (.cells cur 167 (0,0))):=(hk.block g KG.out).trans ((BU1.out.block g (Array.getElem?_eq_some_iff.1 C1.out).1).trans C1.out)
 have T2:Hid (Tab w2):=(T1.out.keep BU1.out).kept hk KZ.out
 have N2:Hid (Kept K w w2):=(N1.out.trans (kept_of_below BU1.out I1.out.dom)).trans hk
 have q2_0:w2.cell? ⟨g,24,none⟩=some (.int .u64 A2):=(Go.Joins.cell_of_block C2.out 24).trans (CX.out 24 _ rfl)
 have q2_1:w2.cell? ⟨g,25,none⟩=some (.int .u64 X2):=(Go.Joins.cell_of_block C2.out 25).trans (CX.out 25 _ rfl)
 have q2_2:w2.cell? ⟨g,26,none⟩=some (.bool y20):=(Go.Joins.cell_of_block C2.out 26).trans (CX.out 26 _ rfl)
 have q2_3:w2.cell? ⟨g,27,none⟩=some (.bool y21):=(Go.Joins.cell_of_block C2.out 27).trans (CX.out 27 _ rfl)
 have q2_4:w2.cell? ⟨g,28,none⟩=some (.bool y22):=(Go.Joins.cell_of_block C2.out 28).trans (CX.out 28 _ rfl)
 have q2_5:w2.cell? ⟨g,29,none⟩=some (.bool y23):=(Go.Joins.cell_of_block C2.out 29).trans (CX.out 29 _ rfl)
 have q2_6:w2.cell? ⟨g,30,none⟩=some (.bool y24):=(Go.Joins.cell_of_block C2.out 30).trans (CX.out 30 _ rfl)
 have q2_7:w2.cell? ⟨g,31,none⟩=some (.bool false):=(Go.Joins.cell_of_block C2.out 31).trans (CX.out 31 _ rfl)
 have q2_8:w2.cell? ⟨g,32,none⟩=some (.bool y26):=(Go.Joins.cell_of_block C2.out 32).trans (CX.out 32 _ rfl)
 have q2_9:w2.cell? ⟨g,33,none⟩=some (.bool y27):=(Go.Joins.cell_of_block C2.out 33).trans (CX.out 33 _ rfl)
 have q2_10:w2.cell? ⟨g,34,none⟩=some (.int .i64 f2):=(Go.Joins.cell_of_block C2.out 34).trans (CX.out 34 _ rfl)
 have q2_11:w2.cell? ⟨g,35,none⟩=some (.int .i64 2):=(Go.Joins.cell_of_block C2.out 35).trans (CX.out 35 _ rfl)
 have gz2:g<w2.heap.size:=(Array.getElem?_eq_some_iff.1 C2.out).1
 clear hI hk us1_0 us1_1 BU1 I1 C1 S1
 go_wp2_with fail
 rw [rounds_succ]
 go_wp2_with fail
 refine (P.out _ (T2.out.keep (Go.Joins.below_alloc2 _ _ _))).mono ?_
 rintro e u2 ⟨rfl,hb⟩
 have BU2:Hid (bc w2 u2):=below_then (Go.Joins.below_alloc2 _ _ _) hb
 have us2_0:u2.cell? ⟨w2.heap.size,0,none⟩=some (.int .u64 A2):=cell_next hb (sz2a w2 _ _) (Go.Joins.cell_of_block (own2a w2 _ _) 0)
 have us2_1:u2.cell? ⟨w2.heap.size,1,none⟩=some (.int .u64 X2):=cell_next hb (sz2a w2 _ _) (Go.Joins.cell_of_block (own2a w2 _ _) 1)
 clear hb q2_0 q2_1 q2_2 q2_3 q2_4 q2_5 q2_6 q2_7 q2_8 q2_9 q2_10 q2_11
 go_wp2_with fail
 refine (S2.out _ (I2.out.grown (grown_of_below' BU2.out))).mono ?_
 rintro e w3 ⟨rfl,hI,hk⟩
 have I3:Hid (IsRamK w3 K rb has F (mset (mset (mset M A0 8 Y0) A1 8 Y1) A2 8 Y2) (m+6)):=hI
 have C3:Hid (w3.heap[g]? =some (.cells cur 167 (0,0))):=(hk.block g KG.out).trans ((BU2.out.block g (Array.getElem?_eq_some_iff.1 C2.out).1).trans C2.out)
 have T3:Hid (Tab w3):=(T2.out.keep BU2.out).kept hk KZ.out
 have N3:Hid (Kept K w w3):=(N2.out.trans (kept_of_below BU2.out I2.out.dom)).trans hk
 have q3_0:w3.cell? ⟨g,36,none⟩=some (.int .u64 A3):=(Go.Joins.cell_of_block C3.out 36).trans (CX.out 36 _ rfl)
 have q3_1:w3.cell? ⟨g,37,none⟩=some (.int .u64 X3):=(Go.Joins.cell_of_block C3.out 37).trans (CX.out 37 _ rfl)
 have q3_2:w3.cell? ⟨g,38,none⟩=some (.bool y30):=(Go.Joins.cell_of_block C3.out 38).trans (CX.out 38 _ rfl)
 have q3_3:w3.cell? ⟨g,39,none⟩=some (.bool y31):=(Go.Joins.cell_of_block C3.out 39).trans (CX.out 39 _ rfl)
 have q3_4:w3.cell? ⟨g,40,none⟩=some (.bool y32):=(Go.Joins.cell_of_block C3.out 40).trans (CX.out 40 _ rfl)
 have q3_5:w3.cell? ⟨g,41,none⟩=some (.bool y33):=(Go.Joins.cell_of_block C3.out 41).trans (CX.out 41 _ rfl)
 have q3_6:w3.cell? ⟨g,42,none⟩=some (.bool y34):=(Go.Joins.cell_of_block C3.out 42).trans (CX.out 42 _ rfl)
 have q3_7:w3.cell? ⟨g,43,none⟩=some (.bool y35):=(Go.Joins.cell_of_block C3.out 43).trans (CX.out 43 _ rfl)
 have q3_8:w3.cell? ⟨g,44,none⟩=some (.bool y36):=(Go.Joins.cell_of_block C3.out 44).trans (CX.out 44 _ rfl)
 have q3_9:w3.cell? ⟨g,45,none⟩=some (.bool y37):=(Go.Joins.cell_of_block C3.out 45).trans (CX.out 45 _ rfl)
 have q3_10:w3.cell? ⟨g,46,none⟩=some (.int .i64 f3):=(Go.Joins.cell_of_block C3.out 46).trans (CX.out 46 _ rfl)
 have q3_11:w3.cell? ⟨g,47,none⟩=some (.int .i64 1):=(Go.Joins.cell_of_block C3.out 47).trans (CX.out 47 _ rfl)
 have gz3:g<w3.heap.size:=(Array.getElem?_eq_some_iff.1 C3.out).1
 clear hI hk us2_0 us2_1 BU2 I2 C2 S2
 go_wp2_with fail
 rw [rounds_succ]
 go_wp2_with fail
 refine (P'.out _ (T3.out.keep (Go.Joins.below_alloc2 _ _ _))).mono ?_
 rintro e u3 ⟨rfl,hb⟩
 have BU3:Hid (bc w3 u3):=below_then (Go.Joins.below_alloc2 _ _ _) hb
 have us3_0:u3.cell? ⟨w3.heap.size,0,none⟩=some (.int .u64 A3):=cell_next hb (sz2a w3 _ _) (Go.Joins.cell_of_block (own2a w3 _ _) 0)
 have us3_1:u3.cell? ⟨w3.heap.size,1,none⟩=some (.int .u64 X3):=cell_next hb (sz2a w3 _ _) (Go.Joins.cell_of_block (own2a w3 _ _) 1)
 clear hb q3_0 q3_1 q3_2 q3_3 q3_4 q3_5 q3_6 q3_7 q3_8 q3_9 q3_10 q3_11
 go_wp2_with fail
 refine (S3.out _ (I3.out.grown (grown_of_below' BU3.out))).mono ?_
 rintro e w4 ⟨rfl,hI,hk⟩
 have I4:Hid (IsRamK w4 K rb has F (mset (mset (mset (mset M A0 8 Y0) A1 8 Y1) A2 8 Y2) A3 8 Y3) (m+8)):=hI
 have C4:Hid (w4.heap[g]? =some (.cells cur 167 (0,0))):=(hk.block g KG.out).trans ((BU3.out.block g (Array.getElem?_eq_some_iff.1 C3.out).1).trans C3.out)
 have T4:Hid (Tab w4):=(T3.out.keep BU3.out).kept hk KZ.out
 have N4:Hid (Kept K w w4):=(N3.out.trans (kept_of_below BU3.out I3.out.dom)).trans hk
 clear hI hk us3_0 us3_1 BU3 I3 C3 S3
 go_wp2_with fail
 rw [rounds_succ]
 go_wp2_with fail
 go_end0
 exact ⟨rfl,I4.out,N4.out,T4.out⟩
theorem grown_of_but {w w':World} {f:Nat} (h:Kept (fun k=>k≠f) w w'):w.grownBy w' (some f):=⟨h.os,h.tape,h.output,h.size,fun k hk hne=>h.block k (fun e=>hne (by rw [e]))⟩
theorem there_kept {W W':World} {b o n:Nat} (h:W.there b o n) (hb:W'.heap[b]? =W.heap[b]?):W'.there b o n:=fun j hj=>by
 obtain ⟨h1,h2⟩:=h j hj
 exact ⟨by rw [World.cell?_of_block (w:=W) (a:=⟨b,o+j,none⟩) hb];exact h1,by
  have:W'.frozen? ⟨b,o+j,none⟩=W.frozen? ⟨b,o+j,none⟩:=by simp only [World.frozen?,hb]
  rw [this];exact h2⟩
theorem cell_kept {W W':World} {b i:Nat} {v:Value} (h:W.cell? ⟨b,i,none⟩=some v) (hb:W'.heap[b]? =W.heap[b]?):W'.cell? ⟨b,i,none⟩=some v:=(World.cell?_of_block (w:=W) (a:=⟨b,i,none⟩) hb).trans h
theorem frozen_kept {W W':World} {b i:Nat} (h:W.frozen? ⟨b,i,none⟩=false) (hb:W'.heap[b]? =W.heap[b]?):W'.frozen? ⟨b,i,none⟩=false:=by
 have:W'.frozen? ⟨b,i,none⟩=W.frozen? ⟨b,i,none⟩:=by simp only [World.frozen?,hb]
 rw [this];exact h
theorem below_drew8 {w w':World} (h:Below w.drew.heap.size w.drew w'):bc w w':=⟨h.os,h.tape,h.output,h.size,h.block⟩
theorem walk_end (w X:World) (fr:Int) (pw pu px gg lg dd:Bool) (tmps:Array Value) (R:Ending->World->Prop)
 (h8:tmps.getD 8 undef=.pointer (some ⟨w.heap.size+1,0,none⟩)) (h9:tmps.getD 9 undef=.pointer (some ⟨w.heap.size+1+1,0,none⟩)) (h10:tmps.getD 10 undef=.pointer (some ⟨w.heap.size+1+1+1,0,none⟩))
 (r1:X.rangeAt (w.heap.size+1) 0 (se1 fr pw pu px gg lg dd)) (r2:X.rangeAt (w.heap.size+1+1) 0 [.int .u64 0,.int .i64 0]) (r3:X.rangeAt (w.heap.size+1+1+1) 0 [.int .i64 0])
 (hR:R (.returned (.tuple #[.agg (sd1 fr pw pu px gg lg dd),.agg #[.int .u64 0,.int .i64 0],.int .i64 0])) X) :
 bodyPostD Tryz.prog Tryz.f36 R Exit.ret { tmps:=tmps,defers:=[{ target:=Target.fn (Fn.func 60) #[.pointer (some ⟨w.heap.size+1,0,none⟩),.pointer (some ⟨w.heap.size+1+1,0,none⟩),.pointer (some ⟨w.heap.size+1+1+1,0,none⟩)],args:= #[] }] } X:=by
 refine leaves_cons (f:=60) (args:= #[.pointer (some ⟨w.heap.size+1,0,none⟩),.pointer (some ⟨w.heap.size+1+1,0,none⟩),.pointer (some ⟨w.heap.size+1+1+1,0,none⟩)]) (by simp) (by simp [go_sem]) ?_
 refine (catch_idle _ _ _ _).mono ?_
 rintro e u' w'' ⟨rfl,rfl,rfl⟩
 exact ⟨_,results_cell3 Tryz.results36 tmps Tryz.prog w'' _ _ _ _ _ _ h8 h9 h10 (run_loadVar_mid w'' _ 0 113 _ _ r1 Tryz.underlying113 rfl found_info) (run_loadVar_mid w'' _ 0 47 _ _ r2 Tryz.underlying47 rfl fault_info) (load_errno w'' _ 0 (range_cell r3)),hR⟩
theorem walk_ok3 {rb:Nat} (root addr p0 p1 p2 p3 po cd:Int) (x u f:Bool)
 (hc:Hid (∀ w:World,Calls Tryz.prog 61 #[.int .u64 addr] w fun e w'=>e=.returned (.bool true)/\w'=w))
 (sp:Hid (∀ w:World,Calls Tryz.prog 63 #[.int .u64 addr] w (re (.tuple #[.agg (sc p0 p1 p2 p3),.int .i64 po]) w)))
 (co:Hid (∀ w:World,Calls Tryz.prog 64 #[.agg #[.bool x,.bool u,.bool f]] w (re (.int .i64 cd) w))) (w:World)
 (hh:Hid (∀ W:World,bc w W->Calls Tryz.prog 62 #[.pointer (some ⟨rb,0,none⟩),.int .i64 root] W (re (.bool true) W)))
 (xs:List Value) (pw pu px:Bool) (fo:Hid (∀ W:World,bc w W->Calls Tryz.prog 65 #[.pointer (some ⟨rb,0,none⟩),.int .i64 root,.agg (sc p0 p1 p2 p3),.agg #[.int .u64 addr,.int .i64 cd]] W fun e w'=> ∃ v,e=.returned v/\Way w' (W.heap.size+2) v 3 xs/\bc W w'))
 (cm:Hid (∀ (W:World) (base:Nat) (v:Value),Way W base v 3 xs->Calls Tryz.prog 66 #[v] W (re (.agg (sn pw pu px)) W)))
 {K0:Nat->Prop} {has:Int->Bool} {F:Int} {M:Int->Int} {m:Nat} (M':Int->Int) (hX:RamX w K0 rb has F M m) (ht:Tab w) (k00:K0 0)
 (A X fl lv fr:Int) (y0 y1 y2 y3 y4 y5 y6 y7 gg lg dd:Bool) (hl0:xs[24]? =some (.int .u64 A)) (hl1:xs[25]? =some (.int .u64 X)) (hl2:xs[26]? =some (.bool y0)) (hl3:xs[27]? =some (.bool y1)) (hl4:xs[28]? =some (.bool y2)) (hl5:xs[29]? =some (.bool y3)) (hl6:xs[30]? =some (.bool y4)) (hl7:xs[31]? =some (.bool y5)) (hl8:xs[32]? =some (.bool y6)) (hl9:xs[33]? =some (.bool y7)) (hl10:xs[34]? =some (.int .i64 fl)) (hl11:xs[35]? =some (.int .i64 lv))
 (ma:Hid (∀ W:World,Calls Tryz.prog 34 #[.agg (sn pw pu px),.agg #[.bool x,.bool u,.bool f]] W (re (.bool true) W)))
 (mk:Hid (∀ (W:World) (K:Nat->Prop) (base:Nat) (v:Value),Way W base v 3 xs->(∀ j,base<=j->j<W.heap.size->K j)->K 0->Tab W->IsRamK W K rb has F M m->Calls Tryz.prog 68 #[.pointer (some ⟨rb,0,none⟩),v,.bool x] W fun e w'=>e=.returned (.tuple #[])/\IsRamK w' K rb has F M' (m+8)/\Kept K W w'/\Tab w'))
 (te:Hid (∀ W:World,Calls Tryz.prog 69 #[.agg (sb1 A X y0 y1 y2 y3 y4 y5 y6 y7 fl lv),.agg (sn pw pu px),.int .i64 p3,.bool x] W (re (.agg (sd1 fr pw pu px gg lg dd)) W))) :
 Calls Tryz.prog 36 #[.pointer (some ⟨rb,0,none⟩),.int .i64 root,.int .u64 addr,.agg #[.bool x,.bool u,.bool f]] w fun e w'=>e=.returned (.tuple #[.agg (sd1 fr pw pu px gg lg dd),.agg #[.int .u64 0,.int .i64 0],.int .i64 0])/\RamX w' K0 rb has F M' (m+8)/\Kept K0 w w'/\Tab w':=by
 have HX:Hid (RamX w K0 rb has F M m):=hX
 have HT:Hid (Tab w):=ht
 have HK0:Hid (K0 0):=k00
 have HL:Hid (∀ i:Nat,i<12->xs[24+i]? =((sb1 A X y0 y1 y2 y3 y4 y5 y6 y7 fl lv):Array Value)[i]?):=fun i hi=>by
  match i,hi with
  | 0, _ => exact hl0
  | 1, _ => exact hl1
  | 2, _ => exact hl2
  | 3, _ => exact hl3
  | 4, _ => exact hl4
  | 5, _ => exact hl5
  | 6, _ => exact hl6
  | 7, _ => exact hl7
  | 8, _ => exact hl8
  | 9, _ => exact hl9
  | 10, _ => exact hl10
  | 11, _ => exact hl11
 clear hX ht k00 hl0 hl1 hl2 hl3 hl4 hl5 hl6 hl7 hl8 hl9 hl10 hl11
 have hmf: ∀ (fn:Fn) (first cap:Array Value) (w:World),(Instr.makeFunc fn first cap).run Tryz.prog w=.ok (.func fn first cap) w:=fun _ _ _ _=>rfl
 go_enter_defers Tryz.func36,Tryz.ntmps36
 go_wp2_with fail
 refine (hc.out _).mono ?_
 rintro e w1 ⟨rfl,rfl⟩
 go_wp2_with fail
 refine (hh.out _ (Door.made w _).b).mono ?_
 rintro e w2 ⟨rfl,hb⟩
 have D2:Hid (Door w w2):=(Door.made w _).next hb
 have a2_0:w2.cell? ⟨w.heap.size,0,none⟩=some (.bool x):=carry0 hb (sz4 w _ _ _ _) (Go.Joins.cell_of_block (box4 w _ _ _ _) 0)
 have a2_1:w2.cell? ⟨w.heap.size,1,none⟩=some (.bool u):=carry0 hb (sz4 w _ _ _ _) (Go.Joins.cell_of_block (box4 w _ _ _ _) 1)
 have a2_2:w2.cell? ⟨w.heap.size,2,none⟩=some (.bool f):=carry0 hb (sz4 w _ _ _ _) (Go.Joins.cell_of_block (box4 w _ _ _ _) 2)
 have za2:w.heap.size<w2.heap.size:=nla (sz4 w _ _ _ _) hb.size
 clear hb
 go_wp2_with fail
 refine (sp.out _).mono ?_
 rintro e w3 ⟨rfl,hb⟩
 have D3:Hid (Door w w3):=D2.out.next hb
 have a3_0:w3.cell? ⟨w.heap.size,0,none⟩=some (.bool x):=carry0 hb za2 a2_0
 have a3_1:w3.cell? ⟨w.heap.size,1,none⟩=some (.bool u):=carry0 hb za2 a2_1
 have a3_2:w3.cell? ⟨w.heap.size,2,none⟩=some (.bool f):=carry0 hb za2 a2_2
 have za3:w.heap.size<w3.heap.size:=nla za2 hb.size
 clear hb D2 a2_0 a2_1 a2_2 za2
 go_wp2_with fail
 refine (co.out _).mono ?_
 rintro e w4 ⟨rfl,hb⟩
 have D4:Hid (Door w w4):=(D3.out.next baa).next hb
 have a4_0:w4.cell? ⟨w.heap.size,0,none⟩=some (.bool x):=carry1 hb za3 a3_0
 have a4_1:w4.cell? ⟨w.heap.size,1,none⟩=some (.bool u):=carry1 hb za3 a3_1
 have a4_2:w4.cell? ⟨w.heap.size,2,none⟩=some (.bool f):=carry1 hb za3 a3_2
 have q4_0:w4.cell? ⟨w3.heap.size,0,none⟩=some (.int .i64 p0):=carryN hb
 have q4_1:w4.cell? ⟨w3.heap.size,1,none⟩=some (.int .i64 p1):=carryN hb
 have q4_2:w4.cell? ⟨w3.heap.size,2,none⟩=some (.int .i64 p2):=carryN hb
 have q4_3:w4.cell? ⟨w3.heap.size,3,none⟩=some (.int .i64 p3):=carryN hb
 have za4:w.heap.size<w4.heap.size:=nla (old1 za3 _) hb.size
 have zq4:w3.heap.size<w4.heap.size:=nla (szA _ _) hb.size
 have ZD3:Hid (w.heap.size+1+1+1<w3.heap.size):=D3.out.l
 have ZQ4:Hid (w3.heap.size<w4.heap.size):=zq4
 clear hb D3 a3_0 a3_1 a3_2
 go_wp2_with fail
 have ZW4:Hid (w.heap.size<w4.heap.size):=za4
 refine (fo.out _ (D4.out.next baa).b).mono ?_
 rintro e w5 ⟨v,rfl,hway,hb⟩
 have D5:Hid (Door w w5):=(D4.out.next baa).next hb
 have WY5:Hid (Way w5 (w4.heap.size+1+2) v 3 xs):=by have:=hway;rwa [World.size_alloc] at this
 have a5_0:w5.cell? ⟨w.heap.size,0,none⟩=some (.bool x):=carry1 hb za4 a4_0
 have a5_1:w5.cell? ⟨w.heap.size,1,none⟩=some (.bool u):=carry1 hb za4 a4_1
 have a5_2:w5.cell? ⟨w.heap.size,2,none⟩=some (.bool f):=carry1 hb za4 a4_2
 have q5_0:w5.cell? ⟨w3.heap.size,0,none⟩=some (.int .i64 p0):=carry1 hb zq4 q4_0
 have q5_1:w5.cell? ⟨w3.heap.size,1,none⟩=some (.int .i64 p1):=carry1 hb zq4 q4_1
 have q5_2:w5.cell? ⟨w3.heap.size,2,none⟩=some (.int .i64 p2):=carry1 hb zq4 q4_2
 have q5_3:w5.cell? ⟨w3.heap.size,3,none⟩=some (.int .i64 p3):=carry1 hb zq4 q4_3
 have m5_0:w5.cell? ⟨w4.heap.size,0,none⟩=some (.int .u64 addr):=carryN hb
 have m5_1:w5.cell? ⟨w4.heap.size,1,none⟩=some (.int .i64 cd):=carryN hb
 have za5:w.heap.size<w5.heap.size:=nla (old1 za4 _) hb.size
 have zq5:w3.heap.size<w5.heap.size:=nla (old1 zq4 _) hb.size
 have zm5:w4.heap.size<w5.heap.size:=nla (szA _ _) hb.size
 clear hb hway D4 a4_0 a4_1 a4_2 q4_0 q4_1 q4_2 q4_3 za4 zq4
 go_wp2_with fail
 refine (cm.out _ _ _ WY5.out).mono ?_
 rintro e w6 ⟨rfl,hb⟩
 have D6:Hid (Door w w6):=D5.out.next hb
 have WY6:Hid (Way w6 (w4.heap.size+1+2) v 3 xs):=WY5.out.keep hb
 have a6_0:w6.cell? ⟨w.heap.size,0,none⟩=some (.bool x):=carry0 hb za5 a5_0
 have a6_1:w6.cell? ⟨w.heap.size,1,none⟩=some (.bool u):=carry0 hb za5 a5_1
 have a6_2:w6.cell? ⟨w.heap.size,2,none⟩=some (.bool f):=carry0 hb za5 a5_2
 have q6_0:w6.cell? ⟨w3.heap.size,0,none⟩=some (.int .i64 p0):=carry0 hb zq5 q5_0
 have q6_1:w6.cell? ⟨w3.heap.size,1,none⟩=some (.int .i64 p1):=carry0 hb zq5 q5_1
 have q6_2:w6.cell? ⟨w3.heap.size,2,none⟩=some (.int .i64 p2):=carry0 hb zq5 q5_2
 have q6_3:w6.cell? ⟨w3.heap.size,3,none⟩=some (.int .i64 p3):=carry0 hb zq5 q5_3
 have m6_0:w6.cell? ⟨w4.heap.size,0,none⟩=some (.int .u64 addr):=carry0 hb zm5 m5_0
 have m6_1:w6.cell? ⟨w4.heap.size,1,none⟩=some (.int .i64 cd):=carry0 hb zm5 m5_1
 have za6:w.heap.size<w6.heap.size:=nla za5 hb.size
 have zq6:w3.heap.size<w6.heap.size:=nla zq5 hb.size
 have zm6:w4.heap.size<w6.heap.size:=nla zm5 hb.size
 clear hb D5 WY5 a5_0 a5_1 a5_2 q5_0 q5_1 q5_2 q5_3 m5_0 m5_1 za5 zq5 zm5
 go_wp2_with fail
 refine (ma.out _).mono ?_
 rintro e w7 ⟨rfl,hb⟩
 have D7:Hid (Door w w7):=(D6.out.next baa).next hb
 have WY7:Hid (Way w7 (w4.heap.size+1+2) v 3 xs):=(WY6.out.keep baa).keep hb
 have a7_0:w7.cell? ⟨w.heap.size,0,none⟩=some (.bool x):=carry1 hb za6 a6_0
 have a7_1:w7.cell? ⟨w.heap.size,1,none⟩=some (.bool u):=carry1 hb za6 a6_1
 have a7_2:w7.cell? ⟨w.heap.size,2,none⟩=some (.bool f):=carry1 hb za6 a6_2
 have q7_0:w7.cell? ⟨w3.heap.size,0,none⟩=some (.int .i64 p0):=carry1 hb zq6 q6_0
 have q7_1:w7.cell? ⟨w3.heap.size,1,none⟩=some (.int .i64 p1):=carry1 hb zq6 q6_1
 have q7_2:w7.cell? ⟨w3.heap.size,2,none⟩=some (.int .i64 p2):=carry1 hb zq6 q6_2
 have q7_3:w7.cell? ⟨w3.heap.size,3,none⟩=some (.int .i64 p3):=carry1 hb zq6 q6_3
 have m7_0:w7.cell? ⟨w4.heap.size,0,none⟩=some (.int .u64 addr):=carry1 hb zm6 m6_0
 have m7_1:w7.cell? ⟨w4.heap.size,1,none⟩=some (.int .i64 cd):=carry1 hb zm6 m6_1
 have r7_0:w7.cell? ⟨w6.heap.size,0,none⟩=some (.bool pw):=carryN hb
 have r7_1:w7.cell? ⟨w6.heap.size,1,none⟩=some (.bool pu):=carryN hb
 have r7_2:w7.cell? ⟨w6.heap.size,2,none⟩=some (.bool px):=carryN hb
 have za7:w.heap.size<w7.heap.size:=nla (old1 za6 _) hb.size
 have zq7:w3.heap.size<w7.heap.size:=nla (old1 zq6 _) hb.size
 have zm7:w4.heap.size<w7.heap.size:=nla (old1 zm6 _) hb.size
 have zr7:w6.heap.size<w7.heap.size:=nla (szA _ _) hb.size
 have ZW6:Hid (w.heap.size<w6.heap.size):=za6
 have ZQ6:Hid (w3.heap.size<w6.heap.size):=zq6
 clear hb D6 WY6 a6_0 a6_1 a6_2 q6_0 q6_1 q6_2 q6_3 m6_0 m6_1 za6 zq6 zm6
 go_wp2_with fail
 have KD: ∀ j,(fun j=>K0 j\/(w.heap.size<=j/\j<w7.heap.size)) j->K0 j\/(w.heap.size<=j/\j<w7.heap.size):=fun j h=>h
 refine (mk.out _ (fun j=>K0 j\/(w.heap.size<=j/\j<w7.heap.size)) _ _ WY7.out (fun j h1 h2=>Or.inr ⟨by have:=ZW4.out;omega,h2⟩) (Or.inl HK0.out) (HT.out.keep D7.out.b) (HX.out.1.more (grown_of_below' D7.out.b) KD)).mono ?_
 rintro e w8 ⟨rfl,hI,hk,hT8⟩
 clear KD
 have inK: ∀ j,w.heap.size<=j->j<w7.heap.size->w8.heap[j]? =w7.heap[j]? :=fun j h1 h2=>hk.block j (Or.inr ⟨h1,h2⟩)
 have l7:=D7.out.l
 obtain ⟨⟨hlen,hrow⟩,g,cap,rfl,hg1,hg2⟩:=WY7.out
 obtain ⟨cur,hcur,hcx⟩:=way_block hrow hg2
 have zw4:=ZW4.out
 have zw6:=ZW6.out
 have C8:w8.heap[g]? =some (.cells cur 167 (0,0)):=(inK g (by omega) hg2).trans hcur
 have wl: ∀ i,i<12->w8.cell? ⟨g,24+i,none⟩=((sb1 A X y0 y1 y2 y3 y4 y5 y6 y7 fl lv):Array Value)[i]? :=fun i hi=>by
  have h1:=HL.out i hi
  cases hv:((sb1 A X y0 y1 y2 y3 y4 y5 y6 y7 fl lv):Array Value)[i]? with
  | none => rw [Array.getElem?_eq_none_iff] at hv; simp at hv; omega
  | some v => rw [hv] at h1; exact (Go.Joins.cell_of_block C8 (24 + i)).trans (hcx _ _ h1)
 have l8_0:w8.cell? ⟨g,24,none⟩=some (.int .u64 A):=wl 0 (by omega)
 have l8_1:w8.cell? ⟨g,25,none⟩=some (.int .u64 X):=wl 1 (by omega)
 have l8_2:w8.cell? ⟨g,26,none⟩=some (.bool y0):=wl 2 (by omega)
 have l8_3:w8.cell? ⟨g,27,none⟩=some (.bool y1):=wl 3 (by omega)
 have l8_4:w8.cell? ⟨g,28,none⟩=some (.bool y2):=wl 4 (by omega)
 have l8_5:w8.cell? ⟨g,29,none⟩=some (.bool y3):=wl 5 (by omega)
 have l8_6:w8.cell? ⟨g,30,none⟩=some (.bool y4):=wl 6 (by omega)
 have l8_7:w8.cell? ⟨g,31,none⟩=some (.bool y5):=wl 7 (by omega)
 have l8_8:w8.cell? ⟨g,32,none⟩=some (.bool y6):=wl 8 (by omega)
 have l8_9:w8.cell? ⟨g,33,none⟩=some (.bool y7):=wl 9 (by omega)
 have l8_10:w8.cell? ⟨g,34,none⟩=some (.int .i64 fl):=wl 10 (by omega)
 have l8_11:w8.cell? ⟨g,35,none⟩=some (.int .i64 lv):=wl 11 (by omega)
 have r8_0:w8.cell? ⟨w6.heap.size,0,none⟩=some (.bool pw):=cell_kept r7_0 (inK _ (by omega) zr7)
 have r8_1:w8.cell? ⟨w6.heap.size,1,none⟩=some (.bool pu):=cell_kept r7_1 (inK _ (by omega) zr7)
 have r8_2:w8.cell? ⟨w6.heap.size,2,none⟩=some (.bool px):=cell_kept r7_2 (inK _ (by omega) zr7)
 have q8_3:w8.cell? ⟨w3.heap.size,3,none⟩=some (.int .i64 p3):=cell_kept q7_3 (inK _ (by omega) zq7)
 have a8_0:w8.cell? ⟨w.heap.size,0,none⟩=some (.bool x):=cell_kept a7_0 (inK _ (Nat.le_refl _) za7)
 have tf8:Hid (w8.there (w.heap.size+1) 0 7):=there_kept D7.out.f (inK _ (by omega) (by omega))
 have tg8:Hid (w8.there (w.heap.size+1+1) 0 2):=there_kept D7.out.g (inK _ (by omega) (by omega))
 have ce8:Hid (∃ z:Int,w8.cell? ⟨w.heap.size+1+1+1,0,none⟩=some (.int .i64 z)):=⟨0,cell_kept D7.out.e (inK _ (by omega) (by omega))⟩
 have fe8:w8.frozen? ⟨w.heap.size+1+1+1,0,none⟩=false:=frozen_kept D7.out.z (inK _ (by omega) (by omega))
 have zs:w7.heap.size<=w8.heap.size:=hk.size
 have zg:g<w8.heap.size:=by omega
 have z6:w6.heap.size<w8.heap.size:=by omega
 have z3:w3.heap.size<w8.heap.size:=by omega
 have z0:w.heap.size<w8.heap.size:=by omega
 have zE:w.heap.size+1+1+1<w8.heap.size:=by omega
 have HI:Hid (IsRamK w8 (fun j=>K0 j\/(w.heap.size<=j/\j<w7.heap.size)) rb has F M' (m+8)):=hI
 have HT8:Hid (Tab w8):=hT8
 have HK8:Hid (Kept K0 w w8):=(kept_of_below D7.out.b (fun j hj=>HX.out.1.dom j hj)).trans (hk.sub (fun j hj=>Or.inl hj))
 have ZF:Hid (w.heap.size+1+1+1<w7.heap.size):=l7
 have ZZ:Hid (g<w8.heap.size/\w6.heap.size<w8.heap.size/\w3.heap.size<w8.heap.size/\w.heap.size<w8.heap.size/\w.heap.size+1+1+1<w8.heap.size/\w.heap.size+1+1+1<w3.heap.size/\w.heap.size+1+1+1<w6.heap.size/\w.heap.size+1+1+1<g):=⟨zg,z6,z3,z0,zE,ZD3.out,by have:=ZD3.out;have:=ZQ6.out;omega,by have:=ZD3.out;have:=ZQ4.out;omega⟩
 clear inK wl hcx hcur hrow hlen hk hI hT8 C8 hg1 hg2 l7 zs zw4 zw6 D7 WY7 za3 a7_0 a7_1 a7_2 q7_0 q7_1 q7_2 q7_3 m7_0 m7_1 r7_0 r7_1 r7_2 za7 zq7 zm7 zr7 zg z6 z3 z0 zE mk ma cm fo hh co sp hc HL
 go_wp2_with fail
 have hwr:IntKind.i64.wrap 2=2:=by decide
 refine hda (fun c=>c.cell? ⟨g,24,none⟩=some (.int .u64 A)/\c.cell? ⟨g,25,none⟩=some (.int .u64 X)/\c.cell? ⟨g,26,none⟩=some (.bool y0)/\c.cell? ⟨g,27,none⟩=some (.bool y1)/\c.cell? ⟨g,28,none⟩=some (.bool y2)/\c.cell? ⟨g,29,none⟩=some (.bool y3)/\c.cell? ⟨g,30,none⟩=some (.bool y4)/\c.cell? ⟨g,31,none⟩=some (.bool y5)/\c.cell? ⟨g,32,none⟩=some (.bool y6)/\c.cell? ⟨g,33,none⟩=some (.bool y7)/\c.cell? ⟨g,34,none⟩=some (.int .i64 fl)/\c.cell? ⟨g,35,none⟩=some (.int .i64 lv)/\c.cell? ⟨w6.heap.size,0,none⟩=some (.bool pw)/\c.cell? ⟨w6.heap.size,1,none⟩=some (.bool pu)/\c.cell? ⟨w6.heap.size,2,none⟩=some (.bool px)/\c.cell? ⟨w3.heap.size,3,none⟩=some (.int .i64 p3)/\c.cell? ⟨w.heap.size,0,none⟩=some (.bool x)/\Hid (c.there (w.heap.size+1) 0 7)/\Hid (c.there (w.heap.size+1+1) 0 2)/\Hid (∃ z:Int,c.cell? ⟨w.heap.size+1+1+1,0,none⟩=some (.int .i64 z))/\c.frozen? ⟨w.heap.size+1+1+1,0,none⟩=false) (⟨l8_0,l8_1,l8_2,l8_3,l8_4,l8_5,l8_6,l8_7,l8_8,l8_9,l8_10,l8_11,r8_0,r8_1,r8_2,q8_3,a8_0,tf8.out,tg8.out,ce8.out,fe8⟩) fun hHeld=> ?_
 clear l8_0 l8_1 l8_2 l8_3 l8_4 l8_5 l8_6 l8_7 l8_8 l8_9 l8_10 l8_11 r8_0 r8_1 r8_2 q8_3 a8_0 tf8 tg8 ce8 fe8
 refine tma 0 55 rfl ?_
 try simp only [Act.put,zaa,zba,zca]
 refine tma 1 56 rfl ?_
 try simp only [Act.put,zaa,zba,zca]
 refine tma 2 57 rfl ?_
 try simp only [Act.put,zaa,zba,zca]
 refine tma 3 58 rfl ?_
 try simp only [Act.put,zaa,zba,zca]
 refine tma 4 59 rfl ?_
 try simp only [Act.put,zaa,zba,zca]
 refine tma 5 60 rfl ?_
 try simp only [Act.put,zaa,zba,zca]
 refine tma 6 61 rfl ?_
 try simp only [Act.put,zaa,zba,zca]
 refine tma 7 62 rfl ?_
 try simp only [Act.put,zaa,zba,zca]
 refine tma 8 63 rfl ?_
 try simp only [Act.put,zaa,zba,zca]
 refine tma 9 64 rfl ?_
 try simp only [Act.put,zaa,zba,zca]
 refine tma 10 65 rfl ?_
 try simp only [Act.put,zaa,zba,zca]
 refine tma 12 67 rfl ?_
 try simp only [Act.put,zaa,zba,zca]
 refine rda 11 ⟨some 66,_,_,_,_,none⟩ rfl fun K hK=> ?_
 go_simp
 go_wp2_with (go_at_call 69;refine (te.out _).mono ?_;rintro e w9 ⟨rfl,hb⟩)
 obtain ⟨s0,s1,s2,s3,s4,s5,s6,s7,s8,s9,s10,s11,s12,s13,s14,s15,s16,tf,tg,ce,fe⟩:=hHeld
 have hb9:bc w8 w9:=below_drew8 hb
 clear hb
 obtain ⟨zg,z6,z3,z0,zE,e3,e6,eg⟩:=ZZ.out
 refine hK.out _ _ ?_ (fun hHeld1=> ?_)
 . exact ⟨carry0 hb9 zg s0,carry0 hb9 zg s1,carry0 hb9 zg s2,carry0 hb9 zg s3,carry0 hb9 zg s4,carry0 hb9 zg s5,carry0 hb9 zg s6,carry0 hb9 zg s7,carry0 hb9 zg s8,carry0 hb9 zg s9,carry0 hb9 zg s10,carry0 hb9 zg s11,carry0 hb9 z6 s12,carry0 hb9 z6 s13,carry0 hb9 z6 s14,carry0 hb9 z3 s15,carry0 hb9 z0 s16,there_below (show w8.there _ 0 7 from tf.out) hb9 (by omega),there_below (show w8.there _ 0 2 from tg.out) hb9 (by omega),⟨ce.out.choose,carry0 hb9 zE ce.out.choose_spec⟩,(hb9.frozen (p:=⟨w.heap.size+1+1+1,0,none⟩) zE).trans fe⟩
 have HB9:Hid (bc w8 w9):=hb9
 clear hK K hb9 s0 s1 s2 s3 s4 s5 s6 s7 s8 s9 s10 s11 s12 s13 s14 s15 s16 tf tg ce fe zg z6 z3 z0 zE e3 e6 eg
 try simp only [Act.put,zaa,zba,zca]
 have h1:=hHeld1
 clear hHeld1
 obtain ⟨s0,s1,s2,s3,s4,s5,s6,s7,s8,s9,s10,s11,s12,s13,s14,s15,s16,tf,tg,ce,fe⟩:=h1
 have hHeld1:=(show (fun c=>c.cell? ⟨g,24,none⟩=some (.int .u64 A)/\c.cell? ⟨g,25,none⟩=some (.int .u64 X)/\c.cell? ⟨g,26,none⟩=some (.bool y0)/\c.cell? ⟨g,27,none⟩=some (.bool y1)/\c.cell? ⟨g,28,none⟩=some (.bool y2)/\c.cell? ⟨g,29,none⟩=some (.bool y3)/\c.cell? ⟨g,30,none⟩=some (.bool y4)/\c.cell? ⟨g,31,none⟩=some (.bool y5)/\c.cell? ⟨g,32,none⟩=some (.bool y6)/\c.cell? ⟨g,33,none⟩=some (.bool y7)/\c.cell? ⟨g,34,none⟩=some (.int .i64 fl)/\c.cell? ⟨g,35,none⟩=some (.int .i64 lv)/\c.cell? ⟨w6.heap.size,0,none⟩=some (.bool pw)/\c.cell? ⟨w6.heap.size,1,none⟩=some (.bool pu)/\c.cell? ⟨w6.heap.size,2,none⟩=some (.bool px)/\c.cell? ⟨w3.heap.size,3,none⟩=some (.int .i64 p3)/\c.cell? ⟨w.heap.size,0,none⟩=some (.bool x)/\Hid (c.there (w.heap.size+1) 0 7)/\Hid (c.there (w.heap.size+1+1) 0 2)/\Hid (∃ z:Int,c.cell? ⟨w.heap.size+1+1+1,0,none⟩=some (.int .i64 z))/\c.frozen? ⟨w.heap.size+1+1+1,0,none⟩=false) w9 from ⟨s0,s1,s2,s3,s4,s5,s6,s7,s8,s9,s10,s11,s12,s13,s14,s15,s16,tf,tg,ce,fe⟩)
 obtain ⟨zg,z6,z3,z0,zE,e3,e6,eg⟩:=ZZ.out
 refine rda 13 ⟨none,.store 113 (.tmp 8) (.tmp 66),_,_,_,none⟩ rfl fun K hK=> ?_
 refine wanted_mp rfl ?_
 refine wp_store_mid _ _ _ rfl (w.heap.size+1) 0 (sd1 fr pw pu px gg lg dd) rfl rfl tf.out found_info kr ?_
 refine hK.out _ _ ?_ (fun hHeld2=> ?_)
 . exact ⟨(cell_setCells_ne kp1).trans s0,(cell_setCells_ne kp1).trans s1,(cell_setCells_ne kp1).trans s2,(cell_setCells_ne kp1).trans s3,(cell_setCells_ne kp1).trans s4,(cell_setCells_ne kp1).trans s5,(cell_setCells_ne kp1).trans s6,(cell_setCells_ne kp1).trans s7,(cell_setCells_ne kp1).trans s8,(cell_setCells_ne kp1).trans s9,(cell_setCells_ne kp1).trans s10,(cell_setCells_ne kp1).trans s11,(cell_setCells_ne kq1).trans s12,(cell_setCells_ne kq1).trans s13,(cell_setCells_ne kq1).trans s14,(cell_setCells_ne (by exact (show (w3.heap.size:Nat)≠w.heap.size+1 by omega))).trans s15,(cell_setCells_ne (by exact (show (w.heap.size:Nat)≠w.heap.size+1 by omega))).trans s16,World.there_setCells tf.out _ _ _,World.there_setCells tg.out _ _ _,⟨ce.out.choose,(cell_setCells_ne (by exact (show (w.heap.size+1+1+1:Nat)≠w.heap.size+1 by omega))).trans ce.out.choose_spec⟩,(World.frozen?_setCells _ _ _ _ _).trans fe⟩
 clear hK K
 try simp only [Act.put,zaa,zba,zca]
 have Q1:Hid (Kept (fun k=>k≠w.heap.size+1) w9 (w9.setCells (w.heap.size+1) 0 (se1 fr pw pu px gg lg dd))):=kept_setCells _ _ (fun h=>h rfl) _ 0 w9
 have R1:Hid ((w9.setCells (w.heap.size+1) 0 (se1 fr pw pu px gg lg dd)).rangeAt (w.heap.size+1) 0 (se1 fr pw pu px gg lg dd)):=World.rangeAt_setCells_same w9 _ 0 _ tf.out
 clear hHeld1 s0 s1 s2 s3 s4 s5 s6 s7 s8 s9 s10 s11 s12 s13 s14 s15 s16 tf tg ce fe
 simp only [List.toList_toArray] at hHeld2 |-
 generalize w9.setCells (w.heap.size+1) 0 (se1 fr pw pu px gg lg dd)=X1 at hHeld2 Q1 R1 |-
 obtain ⟨s0,s1,s2,s3,s4,s5,s6,s7,s8,s9,s10,s11,s12,s13,s14,s15,s16,tf,tg,ce,fe⟩:=hHeld2
 have hHeld2:=(show (fun c=>c.cell? ⟨g,24,none⟩=some (.int .u64 A)/\c.cell? ⟨g,25,none⟩=some (.int .u64 X)/\c.cell? ⟨g,26,none⟩=some (.bool y0)/\c.cell? ⟨g,27,none⟩=some (.bool y1)/\c.cell? ⟨g,28,none⟩=some (.bool y2)/\c.cell? ⟨g,29,none⟩=some (.bool y3)/\c.cell? ⟨g,30,none⟩=some (.bool y4)/\c.cell? ⟨g,31,none⟩=some (.bool y5)/\c.cell? ⟨g,32,none⟩=some (.bool y6)/\c.cell? ⟨g,33,none⟩=some (.bool y7)/\c.cell? ⟨g,34,none⟩=some (.int .i64 fl)/\c.cell? ⟨g,35,none⟩=some (.int .i64 lv)/\c.cell? ⟨w6.heap.size,0,none⟩=some (.bool pw)/\c.cell? ⟨w6.heap.size,1,none⟩=some (.bool pu)/\c.cell? ⟨w6.heap.size,2,none⟩=some (.bool px)/\c.cell? ⟨w3.heap.size,3,none⟩=some (.int .i64 p3)/\c.cell? ⟨w.heap.size,0,none⟩=some (.bool x)/\Hid (c.there (w.heap.size+1) 0 7)/\Hid (c.there (w.heap.size+1+1) 0 2)/\Hid (∃ z:Int,c.cell? ⟨w.heap.size+1+1+1,0,none⟩=some (.int .i64 z))/\c.frozen? ⟨w.heap.size+1+1+1,0,none⟩=false) X1 from ⟨s0,s1,s2,s3,s4,s5,s6,s7,s8,s9,s10,s11,s12,s13,s14,s15,s16,tf,tg,ce,fe⟩)
 refine rda 14 ⟨none,.store 47 (.tmp 9) (.tmp 67),_,_,_,none⟩ rfl fun K hK=> ?_
 refine wanted_mp rfl ?_
 refine wp_store_mid _ _ _ rfl (w.heap.size+1+1) 0 #[.int .u64 0,.int .i64 0] rfl rfl tg.out fault_info kr ?_
 refine hK.out _ _ ?_ (fun hHeld3=> ?_)
 . exact ⟨(cell_setCells_ne kr1).trans s0,(cell_setCells_ne kr1).trans s1,(cell_setCells_ne kr1).trans s2,(cell_setCells_ne kr1).trans s3,(cell_setCells_ne kr1).trans s4,(cell_setCells_ne kr1).trans s5,(cell_setCells_ne kr1).trans s6,(cell_setCells_ne kr1).trans s7,(cell_setCells_ne kr1).trans s8,(cell_setCells_ne kr1).trans s9,(cell_setCells_ne kr1).trans s10,(cell_setCells_ne kr1).trans s11,(cell_setCells_ne ks1).trans s12,(cell_setCells_ne ks1).trans s13,(cell_setCells_ne ks1).trans s14,(cell_setCells_ne (by exact (show (w3.heap.size:Nat)≠w.heap.size+1+1 by omega))).trans s15,(cell_setCells_ne (by exact (show (w.heap.size:Nat)≠w.heap.size+1+1 by omega))).trans s16,World.there_setCells tf.out _ _ _,World.there_setCells tg.out _ _ _,⟨ce.out.choose,(cell_setCells_ne (by exact (show (w.heap.size+1+1+1:Nat)≠w.heap.size+1+1 by omega))).trans ce.out.choose_spec⟩,(World.frozen?_setCells _ _ _ _ _).trans fe⟩
 clear hK K
 try simp only [Act.put,zaa,zba,zca]
 have Q2:Hid (Kept (fun k=>k≠w.heap.size+1+1) X1 (X1.setCells (w.heap.size+1+1) 0 [.int .u64 0,.int .i64 0])):=kept_setCells _ _ (fun h=>h rfl) _ 0 X1
 have R2:Hid ((X1.setCells (w.heap.size+1+1) 0 [.int .u64 0,.int .i64 0]).rangeAt (w.heap.size+1+1) 0 [.int .u64 0,.int .i64 0]):=World.rangeAt_setCells_same X1 _ 0 _ tg.out
 have R1':Hid ((X1.setCells (w.heap.size+1+1) 0 [.int .u64 0,.int .i64 0]).rangeAt (w.heap.size+1) 0 (se1 fr pw pu px gg lg dd)):=World.rangeAt_setCells_apart R1.out _ 0 _ (Or.inl (by omega))
 clear hHeld2 s0 s1 s2 s3 s4 s5 s6 s7 s8 s9 s10 s11 s12 s13 s14 s15 s16 tf tg ce fe R1
 simp only [List.toList_toArray] at hHeld3 |-
 generalize X1.setCells (w.heap.size+1+1) 0 [.int .u64 0,.int .i64 0]=X2 at hHeld3 Q2 R2 R1' |-
 obtain ⟨s0,s1,s2,s3,s4,s5,s6,s7,s8,s9,s10,s11,s12,s13,s14,s15,s16,tf,tg,ce,fe⟩:=hHeld3
 obtain ⟨z,c2⟩:=ce.out
 have Q3:Hid (Kept (fun k=>k≠w.heap.size+1+1+1) X2 (X2.setCell ⟨w.heap.size+1+1+1,0,none⟩ (.int .i64 0))):=kept_setCell1 _ _ (fun h=>h rfl) 0 _ X2
 have RA:Hid ((X2.setCell ⟨w.heap.size+1+1+1,0,none⟩ (.int .i64 0)).rangeAt (w.heap.size+1) 0 (se1 fr pw pu px gg lg dd)):=World.rangeAt_setCells_apart R1'.out (w.heap.size+1+1+1) 0 [.int .i64 0] (Or.inl (by omega))
 have RB:Hid ((X2.setCell ⟨w.heap.size+1+1+1,0,none⟩ (.int .i64 0)).rangeAt (w.heap.size+1+1) 0 [.int .u64 0,.int .i64 0]):=World.rangeAt_setCells_apart R2.out (w.heap.size+1+1+1) 0 [.int .i64 0] (Or.inl (by omega))
 have RC:Hid ((X2.setCell ⟨w.heap.size+1+1+1,0,none⟩ (.int .i64 0)).rangeAt (w.heap.size+1+1+1) 0 [.int .i64 0]):=World.rangeAt_setCells_same X2 (w.heap.size+1+1+1) 0 [.int .i64 0] (fun j hj=>by
  obtain rfl:j=0:=by simp at hj;omega
  exact ⟨by rw [Nat.zero_add,c2];rfl,fe⟩)
 clear R1' R2
 refine rda 15 ⟨none,.store 37 (.tmp 10) (.const (.int .i64 0)),_,_,_,none⟩ rfl fun K hK=> ?_
 go_simp
 refine hK.out _ _ ?_ (fun hHeld4=> ?_)
 . exact ⟨(World.cell?_setCell_other _ _ _ _ kt1).trans s0,(World.cell?_setCell_other _ _ _ _ kt1).trans s1,(World.cell?_setCell_other _ _ _ _ kt1).trans s2,(World.cell?_setCell_other _ _ _ _ kt1).trans s3,(World.cell?_setCell_other _ _ _ _ kt1).trans s4,(World.cell?_setCell_other _ _ _ _ kt1).trans s5,(World.cell?_setCell_other _ _ _ _ kt1).trans s6,(World.cell?_setCell_other _ _ _ _ kt1).trans s7,(World.cell?_setCell_other _ _ _ _ kt1).trans s8,(World.cell?_setCell_other _ _ _ _ kt1).trans s9,(World.cell?_setCell_other _ _ _ _ kt1).trans s10,(World.cell?_setCell_other _ _ _ _ kt1).trans s11,(World.cell?_setCell_other _ _ _ _ kt1).trans s12,(World.cell?_setCell_other _ _ _ _ kt1).trans s13,(World.cell?_setCell_other _ _ _ _ kt1).trans s14,(World.cell?_setCell_other _ _ _ _ kt1).trans s15,(World.cell?_setCell_other _ _ _ _ kt1).trans s16,World.there_setCells tf.out (w.heap.size+1+1+1) 0 [.int .i64 0],World.there_setCells tg.out (w.heap.size+1+1+1) 0 [.int .i64 0],⟨0,by have:=RC.out 0 _ rfl;rw [Nat.zero_add] at this;exact this⟩,(World.frozen?_setCell _ _ _ _).trans fe⟩
 clear hK K
 try simp only [Act.put,zaa,zba,zca]
 refine wpAnyH_done ka ?_ _
 refine NoPanic.normal ?_
 clear hHeld4 c2 ce s0 s1 s2 s3 s4 s5 s6 s7 s8 s9 s10 s11 s12 s13 s14 s15 s16 tf tg fe
 generalize X2.setCell ⟨w.heap.size+1+1+1,0,none⟩ (.int .i64 0)=X3 at Q3 RA RB RC |-
 go_wp2_with fail
 refine walk_end w X3 fr pw pu px gg lg dd _ _ rfl rfl rfl RA.out RB.out RC.out ?_
 have zF:=ZF.out
 have dom:=HX.out.1.dom
 obtain ⟨S,hS,hSK⟩:=HX.out.2
 have lS: ∀ j,K0 j->j<w.heap.size:=dom
 have k9:Kept K0 w8 w9:=kept_of_below HB9.out (fun j hj=>nla (lS j hj) HK8.out.size)
 have kX:Kept K0 w8 X3:=k9.trans ((Q1.out.sub (fun j hj=>by have:=lS j hj;omega)).trans ((Q2.out.sub (fun j hj=>by have:=lS j hj;omega)).trans (Q3.out.sub (fun j hj=>by have:=lS j hj;omega))))
 have kW:Kept K0 w X3:=HK8.out.trans kX
 have nS: ∀ f,w.heap.size<=f->f∉S:=fun f hf hs=>by have:=lS f (hSK f hs);omega
 have h8:=HI.out.toS (hS.keep (fun s hs=>HK8.out.block s (hSK s hs)) HK8.out.size)
 have h9:=h8.poke (grown_of_below' HB9.out) (fun f hf=>by cases hf)
 have h10:=h9.poke (grown_of_but Q1.out) (fun f hf=>by cases hf;exact ⟨Or.inr ⟨by omega,by omega⟩,nS _ (by omega)⟩)
 have h11:=h10.poke (grown_of_but Q2.out) (fun f hf=>by cases hf;exact ⟨Or.inr ⟨by omega,by omega⟩,nS _ (by omega)⟩)
 have h12:=h11.poke (grown_of_but Q3.out) (fun f hf=>by cases hf;exact ⟨Or.inr ⟨by omega,by omega⟩,nS _ (by omega)⟩)
 exact ⟨rfl,h12.back (fun j hj=>Or.inl hj) hSK (fun j hj=>nla (lS j hj) kW.size),kW,HT8.out.kept kX HK0.out⟩
theorem walk_ok4 {rb:Nat} (root addr p0 p1 p2 p3 po cd:Int) (x u f:Bool)
 (hc:Hid (∀ w:World,Calls Tryz.prog 61 #[.int .u64 addr] w fun e w'=>e=.returned (.bool true)/\w'=w))
 (sp:Hid (∀ w:World,Calls Tryz.prog 63 #[.int .u64 addr] w (re (.tuple #[.agg (sc p0 p1 p2 p3),.int .i64 po]) w)))
 (co:Hid (∀ w:World,Calls Tryz.prog 64 #[.agg #[.bool x,.bool u,.bool f]] w (re (.int .i64 cd) w))) (w:World)
 (hh:Hid (∀ W:World,bc w W->Calls Tryz.prog 62 #[.pointer (some ⟨rb,0,none⟩),.int .i64 root] W (re (.bool true) W)))
 (xs:List Value) (pw pu px:Bool) (fo:Hid (∀ W:World,bc w W->Calls Tryz.prog 65 #[.pointer (some ⟨rb,0,none⟩),.int .i64 root,.agg (sc p0 p1 p2 p3),.agg #[.int .u64 addr,.int .i64 cd]] W fun e w'=> ∃ v,e=.returned v/\Way w' (W.heap.size+2) v 4 xs/\bc W w'))
 (cm:Hid (∀ (W:World) (base:Nat) (v:Value),Way W base v 4 xs->Calls Tryz.prog 66 #[v] W (re (.agg (sn pw pu px)) W)))
 {K0:Nat->Prop} {has:Int->Bool} {F:Int} {M:Int->Int} {m:Nat} (M':Int->Int) (hX:RamX w K0 rb has F M m) (ht:Tab w) (k00:K0 0)
 (A X fl lv fr:Int) (y0 y1 y2 y3 y4 y5 y6 y7 gg lg dd:Bool) (hl0:xs[36]? =some (.int .u64 A)) (hl1:xs[37]? =some (.int .u64 X)) (hl2:xs[38]? =some (.bool y0)) (hl3:xs[39]? =some (.bool y1)) (hl4:xs[40]? =some (.bool y2)) (hl5:xs[41]? =some (.bool y3)) (hl6:xs[42]? =some (.bool y4)) (hl7:xs[43]? =some (.bool y5)) (hl8:xs[44]? =some (.bool y6)) (hl9:xs[45]? =some (.bool y7)) (hl10:xs[46]? =some (.int .i64 fl)) (hl11:xs[47]? =some (.int .i64 lv))
 (ma:Hid (∀ W:World,Calls Tryz.prog 34 #[.agg (sn pw pu px),.agg #[.bool x,.bool u,.bool f]] W (re (.bool true) W)))
 (mk:Hid (∀ (W:World) (K:Nat->Prop) (base:Nat) (v:Value),Way W base v 4 xs->(∀ j,base<=j->j<W.heap.size->K j)->K 0->Tab W->IsRamK W K rb has F M m->Calls Tryz.prog 68 #[.pointer (some ⟨rb,0,none⟩),v,.bool x] W fun e w'=>e=.returned (.tuple #[])/\IsRamK w' K rb has F M' (m+8)/\Kept K W w'/\Tab w'))
 (te:Hid (∀ W:World,Calls Tryz.prog 69 #[.agg (sb1 A X y0 y1 y2 y3 y4 y5 y6 y7 fl lv),.agg (sn pw pu px),.int .i64 p3,.bool x] W (re (.agg (sd1 fr pw pu px gg lg dd)) W))) :
 Calls Tryz.prog 36 #[.pointer (some ⟨rb,0,none⟩),.int .i64 root,.int .u64 addr,.agg #[.bool x,.bool u,.bool f]] w fun e w'=>e=.returned (.tuple #[.agg (sd1 fr pw pu px gg lg dd),.agg #[.int .u64 0,.int .i64 0],.int .i64 0])/\RamX w' K0 rb has F M' (m+8)/\Kept K0 w w'/\Tab w':=by
 have HX:Hid (RamX w K0 rb has F M m):=hX
 have HT:Hid (Tab w):=ht
 have HK0:Hid (K0 0):=k00
 have HL:Hid (∀ i:Nat,i<12->xs[36+i]? =((sb1 A X y0 y1 y2 y3 y4 y5 y6 y7 fl lv):Array Value)[i]?):=fun i hi=>by
  match i,hi with
  | 0, _ => exact hl0
  | 1, _ => exact hl1
  | 2, _ => exact hl2
  | 3, _ => exact hl3
  | 4, _ => exact hl4
  | 5, _ => exact hl5
  | 6, _ => exact hl6
  | 7, _ => exact hl7
  | 8, _ => exact hl8
  | 9, _ => exact hl9
  | 10, _ => exact hl10
  | 11, _ => exact hl11
 clear hX ht k00 hl0 hl1 hl2 hl3 hl4 hl5 hl6 hl7 hl8 hl9 hl10 hl11
 have hmf: ∀ (fn:Fn) (first cap:Array Value) (w:World),(Instr.makeFunc fn first cap).run Tryz.prog w=.ok (.func fn first cap) w:=fun _ _ _ _=>rfl
 go_enter_defers Tryz.func36,Tryz.ntmps36
 go_wp2_with fail
 refine (hc.out _).mono ?_
 rintro e w1 ⟨rfl,rfl⟩
 go_wp2_with fail
 refine (hh.out _ (Door.made w _).b).mono ?_
 rintro e w2 ⟨rfl,hb⟩
 have D2:Hid (Door w w2):=(Door.made w _).next hb
 have a2_0:w2.cell? ⟨w.heap.size,0,none⟩=some (.bool x):=carry0 hb (sz4 w _ _ _ _) (Go.Joins.cell_of_block (box4 w _ _ _ _) 0)
 have a2_1:w2.cell? ⟨w.heap.size,1,none⟩=some (.bool u):=carry0 hb (sz4 w _ _ _ _) (Go.Joins.cell_of_block (box4 w _ _ _ _) 1)
 have a2_2:w2.cell? ⟨w.heap.size,2,none⟩=some (.bool f):=carry0 hb (sz4 w _ _ _ _) (Go.Joins.cell_of_block (box4 w _ _ _ _) 2)
 have za2:w.heap.size<w2.heap.size:=nla (sz4 w _ _ _ _) hb.size
 clear hb
 go_wp2_with fail
 refine (sp.out _).mono ?_
 rintro e w3 ⟨rfl,hb⟩
 have D3:Hid (Door w w3):=D2.out.next hb
 have a3_0:w3.cell? ⟨w.heap.size,0,none⟩=some (.bool x):=carry0 hb za2 a2_0
 have a3_1:w3.cell? ⟨w.heap.size,1,none⟩=some (.bool u):=carry0 hb za2 a2_1
 have a3_2:w3.cell? ⟨w.heap.size,2,none⟩=some (.bool f):=carry0 hb za2 a2_2
 have za3:w.heap.size<w3.heap.size:=nla za2 hb.size
 clear hb D2 a2_0 a2_1 a2_2 za2
 go_wp2_with fail
 refine (co.out _).mono ?_
 rintro e w4 ⟨rfl,hb⟩
 have D4:Hid (Door w w4):=(D3.out.next baa).next hb
 have a4_0:w4.cell? ⟨w.heap.size,0,none⟩=some (.bool x):=carry1 hb za3 a3_0
 have a4_1:w4.cell? ⟨w.heap.size,1,none⟩=some (.bool u):=carry1 hb za3 a3_1
 have a4_2:w4.cell? ⟨w.heap.size,2,none⟩=some (.bool f):=carry1 hb za3 a3_2
 have q4_0:w4.cell? ⟨w3.heap.size,0,none⟩=some (.int .i64 p0):=carryN hb
 have q4_1:w4.cell? ⟨w3.heap.size,1,none⟩=some (.int .i64 p1):=carryN hb
 have q4_2:w4.cell? ⟨w3.heap.size,2,none⟩=some (.int .i64 p2):=carryN hb
 have q4_3:w4.cell? ⟨w3.heap.size,3,none⟩=some (.int .i64 p3):=carryN hb
 have za4:w.heap.size<w4.heap.size:=nla (old1 za3 _) hb.size
 have zq4:w3.heap.size<w4.heap.size:=nla (szA _ _) hb.size
 have ZD3:Hid (w.heap.size+1+1+1<w3.heap.size):=D3.out.l
 have ZQ4:Hid (w3.heap.size<w4.heap.size):=zq4
 clear hb D3 a3_0 a3_1 a3_2
 go_wp2_with fail
 have ZW4:Hid (w.heap.size<w4.heap.size):=za4
 refine (fo.out _ (D4.out.next baa).b).mono ?_
 rintro e w5 ⟨v,rfl,hway,hb⟩
 have D5:Hid (Door w w5):=(D4.out.next baa).next hb
 have WY5:Hid (Way w5 (w4.heap.size+1+2) v 4 xs):=by have:=hway;rwa [World.size_alloc] at this
 have a5_0:w5.cell? ⟨w.heap.size,0,none⟩=some (.bool x):=carry1 hb za4 a4_0
 have a5_1:w5.cell? ⟨w.heap.size,1,none⟩=some (.bool u):=carry1 hb za4 a4_1
 have a5_2:w5.cell? ⟨w.heap.size,2,none⟩=some (.bool f):=carry1 hb za4 a4_2
 have q5_0:w5.cell? ⟨w3.heap.size,0,none⟩=some (.int .i64 p0):=carry1 hb zq4 q4_0
 have q5_1:w5.cell? ⟨w3.heap.size,1,none⟩=some (.int .i64 p1):=carry1 hb zq4 q4_1
 have q5_2:w5.cell? ⟨w3.heap.size,2,none⟩=some (.int .i64 p2):=carry1 hb zq4 q4_2
 have q5_3:w5.cell? ⟨w3.heap.size,3,none⟩=some (.int .i64 p3):=carry1 hb zq4 q4_3
 have m5_0:w5.cell? ⟨w4.heap.size,0,none⟩=some (.int .u64 addr):=carryN hb
 have m5_1:w5.cell? ⟨w4.heap.size,1,none⟩=some (.int .i64 cd):=carryN hb
 have za5:w.heap.size<w5.heap.size:=nla (old1 za4 _) hb.size
 have zq5:w3.heap.size<w5.heap.size:=nla (old1 zq4 _) hb.size
 have zm5:w4.heap.size<w5.heap.size:=nla (szA _ _) hb.size
 clear hb hway D4 a4_0 a4_1 a4_2 q4_0 q4_1 q4_2 q4_3 za4 zq4
 go_wp2_with fail
 refine (cm.out _ _ _ WY5.out).mono ?_
 rintro e w6 ⟨rfl,hb⟩
 have D6:Hid (Door w w6):=D5.out.next hb
 have WY6:Hid (Way w6 (w4.heap.size+1+2) v 4 xs):=WY5.out.keep hb
 have a6_0:w6.cell? ⟨w.heap.size,0,none⟩=some (.bool x):=carry0 hb za5 a5_0
 have a6_1:w6.cell? ⟨w.heap.size,1,none⟩=some (.bool u):=carry0 hb za5 a5_1
 have a6_2:w6.cell? ⟨w.heap.size,2,none⟩=some (.bool f):=carry0 hb za5 a5_2
 have q6_0:w6.cell? ⟨w3.heap.size,0,none⟩=some (.int .i64 p0):=carry0 hb zq5 q5_0
 have q6_1:w6.cell? ⟨w3.heap.size,1,none⟩=some (.int .i64 p1):=carry0 hb zq5 q5_1
 have q6_2:w6.cell? ⟨w3.heap.size,2,none⟩=some (.int .i64 p2):=carry0 hb zq5 q5_2
 have q6_3:w6.cell? ⟨w3.heap.size,3,none⟩=some (.int .i64 p3):=carry0 hb zq5 q5_3
 have m6_0:w6.cell? ⟨w4.heap.size,0,none⟩=some (.int .u64 addr):=carry0 hb zm5 m5_0
 have m6_1:w6.cell? ⟨w4.heap.size,1,none⟩=some (.int .i64 cd):=carry0 hb zm5 m5_1
 have za6:w.heap.size<w6.heap.size:=nla za5 hb.size
 have zq6:w3.heap.size<w6.heap.size:=nla zq5 hb.size
 have zm6:w4.heap.size<w6.heap.size:=nla zm5 hb.size
 clear hb D5 WY5 a5_0 a5_1 a5_2 q5_0 q5_1 q5_2 q5_3 m5_0 m5_1 za5 zq5 zm5
 go_wp2_with fail
 refine (ma.out _).mono ?_
 rintro e w7 ⟨rfl,hb⟩
 have D7:Hid (Door w w7):=(D6.out.next baa).next hb
 have WY7:Hid (Way w7 (w4.heap.size+1+2) v 4 xs):=(WY6.out.keep baa).keep hb
 have a7_0:w7.cell? ⟨w.heap.size,0,none⟩=some (.bool x):=carry1 hb za6 a6_0
 have a7_1:w7.cell? ⟨w.heap.size,1,none⟩=some (.bool u):=carry1 hb za6 a6_1
 have a7_2:w7.cell? ⟨w.heap.size,2,none⟩=some (.bool f):=carry1 hb za6 a6_2
 have q7_0:w7.cell? ⟨w3.heap.size,0,none⟩=some (.int .i64 p0):=carry1 hb zq6 q6_0
 have q7_1:w7.cell? ⟨w3.heap.size,1,none⟩=some (.int .i64 p1):=carry1 hb zq6 q6_1
 have q7_2:w7.cell? ⟨w3.heap.size,2,none⟩=some (.int .i64 p2):=carry1 hb zq6 q6_2
 have q7_3:w7.cell? ⟨w3.heap.size,3,none⟩=some (.int .i64 p3):=carry1 hb zq6 q6_3
 have m7_0:w7.cell? ⟨w4.heap.size,0,none⟩=some (.int .u64 addr):=carry1 hb zm6 m6_0
 have m7_1:w7.cell? ⟨w4.heap.size,1,none⟩=some (.int .i64 cd):=carry1 hb zm6 m6_1
 have r7_0:w7.cell? ⟨w6.heap.size,0,none⟩=some (.bool pw):=carryN hb
 have r7_1:w7.cell? ⟨w6.heap.size,1,none⟩=some (.bool pu):=carryN hb
 have r7_2:w7.cell? ⟨w6.heap.size,2,none⟩=some (.bool px):=carryN hb
 have za7:w.heap.size<w7.heap.size:=nla (old1 za6 _) hb.size
 have zq7:w3.heap.size<w7.heap.size:=nla (old1 zq6 _) hb.size
 have zm7:w4.heap.size<w7.heap.size:=nla (old1 zm6 _) hb.size
 have zr7:w6.heap.size<w7.heap.size:=nla (szA _ _) hb.size
 have ZW6:Hid (w.heap.size<w6.heap.size):=za6
 have ZQ6:Hid (w3.heap.size<w6.heap.size):=zq6
 clear hb D6 WY6 a6_0 a6_1 a6_2 q6_0 q6_1 q6_2 q6_3 m6_0 m6_1 za6 zq6 zm6
 go_wp2_with fail
 have KD: ∀ j,(fun j=>K0 j\/(w.heap.size<=j/\j<w7.heap.size)) j->K0 j\/(w.heap.size<=j/\j<w7.heap.size):=fun j h=>h
 refine (mk.out _ (fun j=>K0 j\/(w.heap.size<=j/\j<w7.heap.size)) _ _ WY7.out (fun j h1 h2=>Or.inr ⟨by have:=ZW4.out;omega,h2⟩) (Or.inl HK0.out) (HT.out.keep D7.out.b) (HX.out.1.more (grown_of_below' D7.out.b) KD)).mono ?_
 rintro e w8 ⟨rfl,hI,hk,hT8⟩
 clear KD
 have inK: ∀ j,w.heap.size<=j->j<w7.heap.size->w8.heap[j]? =w7.heap[j]? :=fun j h1 h2=>hk.block j (Or.inr ⟨h1,h2⟩)
 have l7:=D7.out.l
 obtain ⟨⟨hlen,hrow⟩,g,cap,rfl,hg1,hg2⟩:=WY7.out
 obtain ⟨cur,hcur,hcx⟩:=way_block hrow hg2
 have zw4:=ZW4.out
 have zw6:=ZW6.out
 have C8:w8.heap[g]? =some (.cells cur 167 (0,0)):=(inK g (by omega) hg2).trans hcur
 have wl: ∀ i,i<12->w8.cell? ⟨g,36+i,none⟩=((sb1 A X y0 y1 y2 y3 y4 y5 y6 y7 fl lv):Array Value)[i]? :=fun i hi=>by
  have h1:=HL.out i hi
  cases hv:((sb1 A X y0 y1 y2 y3 y4 y5 y6 y7 fl lv):Array Value)[i]? with
  | none => rw [Array.getElem?_eq_none_iff] at hv; simp at hv; omega
  | some v => rw [hv] at h1; exact (Go.Joins.cell_of_block C8 (36 + i)).trans (hcx _ _ h1)
 have l8_0:w8.cell? ⟨g,36,none⟩=some (.int .u64 A):=wl 0 (by omega)
 have l8_1:w8.cell? ⟨g,37,none⟩=some (.int .u64 X):=wl 1 (by omega)
 have l8_2:w8.cell? ⟨g,38,none⟩=some (.bool y0):=wl 2 (by omega)
 have l8_3:w8.cell? ⟨g,39,none⟩=some (.bool y1):=wl 3 (by omega)
 have l8_4:w8.cell? ⟨g,40,none⟩=some (.bool y2):=wl 4 (by omega)
 have l8_5:w8.cell? ⟨g,41,none⟩=some (.bool y3):=wl 5 (by omega)
 have l8_6:w8.cell? ⟨g,42,none⟩=some (.bool y4):=wl 6 (by omega)
 have l8_7:w8.cell? ⟨g,43,none⟩=some (.bool y5):=wl 7 (by omega)
 have l8_8:w8.cell? ⟨g,44,none⟩=some (.bool y6):=wl 8 (by omega)
 have l8_9:w8.cell? ⟨g,45,none⟩=some (.bool y7):=wl 9 (by omega)
 have l8_10:w8.cell? ⟨g,46,none⟩=some (.int .i64 fl):=wl 10 (by omega)
 have l8_11:w8.cell? ⟨g,47,none⟩=some (.int .i64 lv):=wl 11 (by omega)
 have r8_0:w8.cell? ⟨w6.heap.size,0,none⟩=some (.bool pw):=cell_kept r7_0 (inK _ (by omega) zr7)
 have r8_1:w8.cell? ⟨w6.heap.size,1,none⟩=some (.bool pu):=cell_kept r7_1 (inK _ (by omega) zr7)
 have r8_2:w8.cell? ⟨w6.heap.size,2,none⟩=some (.bool px):=cell_kept r7_2 (inK _ (by omega) zr7)
 have q8_3:w8.cell? ⟨w3.heap.size,3,none⟩=some (.int .i64 p3):=cell_kept q7_3 (inK _ (by omega) zq7)
 have a8_0:w8.cell? ⟨w.heap.size,0,none⟩=some (.bool x):=cell_kept a7_0 (inK _ (Nat.le_refl _) za7)
 have tf8:Hid (w8.there (w.heap.size+1) 0 7):=there_kept D7.out.f (inK _ (by omega) (by omega))
 have tg8:Hid (w8.there (w.heap.size+1+1) 0 2):=there_kept D7.out.g (inK _ (by omega) (by omega))
 have ce8:Hid (∃ z:Int,w8.cell? ⟨w.heap.size+1+1+1,0,none⟩=some (.int .i64 z)):=⟨0,cell_kept D7.out.e (inK _ (by omega) (by omega))⟩
 have fe8:w8.frozen? ⟨w.heap.size+1+1+1,0,none⟩=false:=frozen_kept D7.out.z (inK _ (by omega) (by omega))
 have zs:w7.heap.size<=w8.heap.size:=hk.size
 have zg:g<w8.heap.size:=by omega
 have z6:w6.heap.size<w8.heap.size:=by omega
 have z3:w3.heap.size<w8.heap.size:=by omega
 have z0:w.heap.size<w8.heap.size:=by omega
 have zE:w.heap.size+1+1+1<w8.heap.size:=by omega
 have HI:Hid (IsRamK w8 (fun j=>K0 j\/(w.heap.size<=j/\j<w7.heap.size)) rb has F M' (m+8)):=hI
 have HT8:Hid (Tab w8):=hT8
 have HK8:Hid (Kept K0 w w8):=(kept_of_below D7.out.b (fun j hj=>HX.out.1.dom j hj)).trans (hk.sub (fun j hj=>Or.inl hj))
 have ZF:Hid (w.heap.size+1+1+1<w7.heap.size):=l7
 have ZZ:Hid (g<w8.heap.size/\w6.heap.size<w8.heap.size/\w3.heap.size<w8.heap.size/\w.heap.size<w8.heap.size/\w.heap.size+1+1+1<w8.heap.size/\w.heap.size+1+1+1<w3.heap.size/\w.heap.size+1+1+1<w6.heap.size/\w.heap.size+1+1+1<g):=⟨zg,z6,z3,z0,zE,ZD3.out,by have:=ZD3.out;have:=ZQ6.out;omega,by have:=ZD3.out;have:=ZQ4.out;omega⟩
 clear inK wl hcx hcur hrow hlen hk hI hT8 C8 hg1 hg2 l7 zs zw4 zw6 D7 WY7 za3 a7_0 a7_1 a7_2 q7_0 q7_1 q7_2 q7_3 m7_0 m7_1 r7_0 r7_1 r7_2 za7 zq7 zm7 zr7 zg z6 z3 z0 zE mk ma cm fo hh co sp hc HL
 go_wp2_with fail
 have hwr:IntKind.i64.wrap 3=3:=by decide
 refine hda (fun c=>c.cell? ⟨g,36,none⟩=some (.int .u64 A)/\c.cell? ⟨g,37,none⟩=some (.int .u64 X)/\c.cell? ⟨g,38,none⟩=some (.bool y0)/\c.cell? ⟨g,39,none⟩=some (.bool y1)/\c.cell? ⟨g,40,none⟩=some (.bool y2)/\c.cell? ⟨g,41,none⟩=some (.bool y3)/\c.cell? ⟨g,42,none⟩=some (.bool y4)/\c.cell? ⟨g,43,none⟩=some (.bool y5)/\c.cell? ⟨g,44,none⟩=some (.bool y6)/\c.cell? ⟨g,45,none⟩=some (.bool y7)/\c.cell? ⟨g,46,none⟩=some (.int .i64 fl)/\c.cell? ⟨g,47,none⟩=some (.int .i64 lv)/\c.cell? ⟨w6.heap.size,0,none⟩=some (.bool pw)/\c.cell? ⟨w6.heap.size,1,none⟩=some (.bool pu)/\c.cell? ⟨w6.heap.size,2,none⟩=some (.bool px)/\c.cell? ⟨w3.heap.size,3,none⟩=some (.int .i64 p3)/\c.cell? ⟨w.heap.size,0,none⟩=some (.bool x)/\Hid (c.there (w.heap.size+1) 0 7)/\Hid (c.there (w.heap.size+1+1) 0 2)/\Hid (∃ z:Int,c.cell? ⟨w.heap.size+1+1+1,0,none⟩=some (.int .i64 z))/\c.frozen? ⟨w.heap.size+1+1+1,0,none⟩=false) (⟨l8_0,l8_1,l8_2,l8_3,l8_4,l8_5,l8_6,l8_7,l8_8,l8_9,l8_10,l8_11,r8_0,r8_1,r8_2,q8_3,a8_0,tf8.out,tg8.out,ce8.out,fe8⟩) fun hHeld=> ?_
 clear l8_0 l8_1 l8_2 l8_3 l8_4 l8_5 l8_6 l8_7 l8_8 l8_9 l8_10 l8_11 r8_0 r8_1 r8_2 q8_3 a8_0 tf8 tg8 ce8 fe8
 refine tma 0 55 rfl ?_
 try simp only [Act.put,zaa,zba,zca]
 refine tma 1 56 rfl ?_
 try simp only [Act.put,zaa,zba,zca]
 refine tma 2 57 rfl ?_
 try simp only [Act.put,zaa,zba,zca]
 refine tma 3 58 rfl ?_
 try simp only [Act.put,zaa,zba,zca]
 refine tma 4 59 rfl ?_
 try simp only [Act.put,zaa,zba,zca]
 refine tma 5 60 rfl ?_
 try simp only [Act.put,zaa,zba,zca]
 refine tma 6 61 rfl ?_
 try simp only [Act.put,zaa,zba,zca]
 refine tma 7 62 rfl ?_
 try simp only [Act.put,zaa,zba,zca]
 refine tma 8 63 rfl ?_
 try simp only [Act.put,zaa,zba,zca]
 refine tma 9 64 rfl ?_
 try simp only [Act.put,zaa,zba,zca]
 refine tma 10 65 rfl ?_
 try simp only [Act.put,zaa,zba,zca]
 refine tma 12 67 rfl ?_
 try simp only [Act.put,zaa,zba,zca]
 refine rda 11 ⟨some 66,_,_,_,_,none⟩ rfl fun K hK=> ?_
 go_simp
 go_wp2_with (go_at_call 69;refine (te.out _).mono ?_;rintro e w9 ⟨rfl,hb⟩)
 obtain ⟨s0,s1,s2,s3,s4,s5,s6,s7,s8,s9,s10,s11,s12,s13,s14,s15,s16,tf,tg,ce,fe⟩:=hHeld
 have hb9:bc w8 w9:=below_drew8 hb
 clear hb
 obtain ⟨zg,z6,z3,z0,zE,e3,e6,eg⟩:=ZZ.out
 refine hK.out _ _ ?_ (fun hHeld1=> ?_)
 . exact ⟨carry0 hb9 zg s0,carry0 hb9 zg s1,carry0 hb9 zg s2,carry0 hb9 zg s3,carry0 hb9 zg s4,carry0 hb9 zg s5,carry0 hb9 zg s6,carry0 hb9 zg s7,carry0 hb9 zg s8,carry0 hb9 zg s9,carry0 hb9 zg s10,carry0 hb9 zg s11,carry0 hb9 z6 s12,carry0 hb9 z6 s13,carry0 hb9 z6 s14,carry0 hb9 z3 s15,carry0 hb9 z0 s16,there_below (show w8.there _ 0 7 from tf.out) hb9 (by omega),there_below (show w8.there _ 0 2 from tg.out) hb9 (by omega),⟨ce.out.choose,carry0 hb9 zE ce.out.choose_spec⟩,(hb9.frozen (p:=⟨w.heap.size+1+1+1,0,none⟩) zE).trans fe⟩
 have HB9:Hid (bc w8 w9):=hb9
 clear hK K hb9 s0 s1 s2 s3 s4 s5 s6 s7 s8 s9 s10 s11 s12 s13 s14 s15 s16 tf tg ce fe zg z6 z3 z0 zE e3 e6 eg
 try simp only [Act.put,zaa,zba,zca]
 have h1:=hHeld1
 clear hHeld1
 obtain ⟨s0,s1,s2,s3,s4,s5,s6,s7,s8,s9,s10,s11,s12,s13,s14,s15,s16,tf,tg,ce,fe⟩:=h1
 have hHeld1:=(show (fun c=>c.cell? ⟨g,36,none⟩=some (.int .u64 A)/\c.cell? ⟨g,37,none⟩=some (.int .u64 X)/\c.cell? ⟨g,38,none⟩=some (.bool y0)/\c.cell? ⟨g,39,none⟩=some (.bool y1)/\c.cell? ⟨g,40,none⟩=some (.bool y2)/\c.cell? ⟨g,41,none⟩=some (.bool y3)/\c.cell? ⟨g,42,none⟩=some (.bool y4)/\c.cell? ⟨g,43,none⟩=some (.bool y5)/\c.cell? ⟨g,44,none⟩=some (.bool y6)/\c.cell? ⟨g,45,none⟩=some (.bool y7)/\c.cell? ⟨g,46,none⟩=some (.int .i64 fl)/\c.cell? ⟨g,47,none⟩=some (.int .i64 lv)/\c.cell? ⟨w6.heap.size,0,none⟩=some (.bool pw)/\c.cell? ⟨w6.heap.size,1,none⟩=some (.bool pu)/\c.cell? ⟨w6.heap.size,2,none⟩=some (.bool px)/\c.cell? ⟨w3.heap.size,3,none⟩=some (.int .i64 p3)/\c.cell? ⟨w.heap.size,0,none⟩=some (.bool x)/\Hid (c.there (w.heap.size+1) 0 7)/\Hid (c.there (w.heap.size+1+1) 0 2)/\Hid (∃ z:Int,c.cell? ⟨w.heap.size+1+1+1,0,none⟩=some (.int .i64 z))/\c.frozen? ⟨w.heap.size+1+1+1,0,none⟩=false) w9 from ⟨s0,s1,s2,s3,s4,s5,s6,s7,s8,s9,s10,s11,s12,s13,s14,s15,s16,tf,tg,ce,fe⟩)
 obtain ⟨zg,z6,z3,z0,zE,e3,e6,eg⟩:=ZZ.out
 refine rda 13 ⟨none,.store 113 (.tmp 8) (.tmp 66),_,_,_,none⟩ rfl fun K hK=> ?_
 refine wanted_mp rfl ?_
 refine wp_store_mid _ _ _ rfl (w.heap.size+1) 0 (sd1 fr pw pu px gg lg dd) rfl rfl tf.out found_info kr ?_
 refine hK.out _ _ ?_ (fun hHeld2=> ?_)
 . exact ⟨(cell_setCells_ne kp1).trans s0,(cell_setCells_ne kp1).trans s1,(cell_setCells_ne kp1).trans s2,(cell_setCells_ne kp1).trans s3,(cell_setCells_ne kp1).trans s4,(cell_setCells_ne kp1).trans s5,(cell_setCells_ne kp1).trans s6,(cell_setCells_ne kp1).trans s7,(cell_setCells_ne kp1).trans s8,(cell_setCells_ne kp1).trans s9,(cell_setCells_ne kp1).trans s10,(cell_setCells_ne kp1).trans s11,(cell_setCells_ne kq1).trans s12,(cell_setCells_ne kq1).trans s13,(cell_setCells_ne kq1).trans s14,(cell_setCells_ne (by exact (show (w3.heap.size:Nat)≠w.heap.size+1 by omega))).trans s15,(cell_setCells_ne (by exact (show (w.heap.size:Nat)≠w.heap.size+1 by omega))).trans s16,World.there_setCells tf.out _ _ _,World.there_setCells tg.out _ _ _,⟨ce.out.choose,(cell_setCells_ne (by exact (show (w.heap.size+1+1+1:Nat)≠w.heap.size+1 by omega))).trans ce.out.choose_spec⟩,(World.frozen?_setCells _ _ _ _ _).trans fe⟩
 clear hK K
 try simp only [Act.put,zaa,zba,zca]
 have Q1:Hid (Kept (fun k=>k≠w.heap.size+1) w9 (w9.setCells (w.heap.size+1) 0 (se1 fr pw pu px gg lg dd))):=kept_setCells _ _ (fun h=>h rfl) _ 0 w9
 have R1:Hid ((w9.setCells (w.heap.size+1) 0 (se1 fr pw pu px gg lg dd)).rangeAt (w.heap.size+1) 0 (se1 fr pw pu px gg lg dd)):=World.rangeAt_setCells_same w9 _ 0 _ tf.out
 clear hHeld1 s0 s1 s2 s3 s4 s5 s6 s7 s8 s9 s10 s11 s12 s13 s14 s15 s16 tf tg ce fe
 simp only [List.toList_toArray] at hHeld2 |-
 generalize w9.setCells (w.heap.size+1) 0 (se1 fr pw pu px gg lg dd)=X1 at hHeld2 Q1 R1 |-
 obtain ⟨s0,s1,s2,s3,s4,s5,s6,s7,s8,s9,s10,s11,s12,s13,s14,s15,s16,tf,tg,ce,fe⟩:=hHeld2
 have hHeld2:=(show (fun c=>c.cell? ⟨g,36,none⟩=some (.int .u64 A)/\c.cell? ⟨g,37,none⟩=some (.int .u64 X)/\c.cell? ⟨g,38,none⟩=some (.bool y0)/\c.cell? ⟨g,39,none⟩=some (.bool y1)/\c.cell? ⟨g,40,none⟩=some (.bool y2)/\c.cell? ⟨g,41,none⟩=some (.bool y3)/\c.cell? ⟨g,42,none⟩=some (.bool y4)/\c.cell? ⟨g,43,none⟩=some (.bool y5)/\c.cell? ⟨g,44,none⟩=some (.bool y6)/\c.cell? ⟨g,45,none⟩=some (.bool y7)/\c.cell? ⟨g,46,none⟩=some (.int .i64 fl)/\c.cell? ⟨g,47,none⟩=some (.int .i64 lv)/\c.cell? ⟨w6.heap.size,0,none⟩=some (.bool pw)/\c.cell? ⟨w6.heap.size,1,none⟩=some (.bool pu)/\c.cell? ⟨w6.heap.size,2,none⟩=some (.bool px)/\c.cell? ⟨w3.heap.size,3,none⟩=some (.int .i64 p3)/\c.cell? ⟨w.heap.size,0,none⟩=some (.bool x)/\Hid (c.there (w.heap.size+1) 0 7)/\Hid (c.there (w.heap.size+1+1) 0 2)/\Hid (∃ z:Int,c.cell? ⟨w.heap.size+1+1+1,0,none⟩=some (.int .i64 z))/\c.frozen? ⟨w.heap.size+1+1+1,0,none⟩=false) X1 from ⟨s0,s1,s2,s3,s4,s5,s6,s7,s8,s9,s10,s11,s12,s13,s14,s15,s16,tf,tg,ce,fe⟩)
 refine rda 14 ⟨none,.store 47 (.tmp 9) (.tmp 67),_,_,_,none⟩ rfl fun K hK=> ?_
 refine wanted_mp rfl ?_
 refine wp_store_mid _ _ _ rfl (w.heap.size+1+1) 0 #[.int .u64 0,.int .i64 0] rfl rfl tg.out fault_info kr ?_
 refine hK.out _ _ ?_ (fun hHeld3=> ?_)
 . exact ⟨(cell_setCells_ne kr1).trans s0,(cell_setCells_ne kr1).trans s1,(cell_setCells_ne kr1).trans s2,(cell_setCells_ne kr1).trans s3,(cell_setCells_ne kr1).trans s4,(cell_setCells_ne kr1).trans s5,(cell_setCells_ne kr1).trans s6,(cell_setCells_ne kr1).trans s7,(cell_setCells_ne kr1).trans s8,(cell_setCells_ne kr1).trans s9,(cell_setCells_ne kr1).trans s10,(cell_setCells_ne kr1).trans s11,(cell_setCells_ne ks1).trans s12,(cell_setCells_ne ks1).trans s13,(cell_setCells_ne ks1).trans s14,(cell_setCells_ne (by exact (show (w3.heap.size:Nat)≠w.heap.size+1+1 by omega))).trans s15,(cell_setCells_ne (by exact (show (w.heap.size:Nat)≠w.heap.size+1+1 by omega))).trans s16,World.there_setCells tf.out _ _ _,World.there_setCells tg.out _ _ _,⟨ce.out.choose,(cell_setCells_ne (by exact (show (w.heap.size+1+1+1:Nat)≠w.heap.size+1+1 by omega))).trans ce.out.choose_spec⟩,(World.frozen?_setCells _ _ _ _ _).trans fe⟩
 clear hK K
 try simp only [Act.put,zaa,zba,zca]
 have Q2:Hid (Kept (fun k=>k≠w.heap.size+1+1) X1 (X1.setCells (w.heap.size+1+1) 0 [.int .u64 0,.int .i64 0])):=kept_setCells _ _ (fun h=>h rfl) _ 0 X1
 have R2:Hid ((X1.setCells (w.heap.size+1+1) 0 [.int .u64 0,.int .i64 0]).rangeAt (w.heap.size+1+1) 0 [.int .u64 0,.int .i64 0]):=World.rangeAt_setCells_same X1 _ 0 _ tg.out
 have R1':Hid ((X1.setCells (w.heap.size+1+1) 0 [.int .u64 0,.int .i64 0]).rangeAt (w.heap.size+1) 0 (se1 fr pw pu px gg lg dd)):=World.rangeAt_setCells_apart R1.out _ 0 _ (Or.inl (by omega))
 clear hHeld2 s0 s1 s2 s3 s4 s5 s6 s7 s8 s9 s10 s11 s12 s13 s14 s15 s16 tf tg ce fe R1
 simp only [List.toList_toArray] at hHeld3 |-
 generalize X1.setCells (w.heap.size+1+1) 0 [.int .u64 0,.int .i64 0]=X2 at hHeld3 Q2 R2 R1' |-
 obtain ⟨s0,s1,s2,s3,s4,s5,s6,s7,s8,s9,s10,s11,s12,s13,s14,s15,s16,tf,tg,ce,fe⟩:=hHeld3
 obtain ⟨z,c2⟩:=ce.out
 have Q3:Hid (Kept (fun k=>k≠w.heap.size+1+1+1) X2 (X2.setCell ⟨w.heap.size+1+1+1,0,none⟩ (.int .i64 0))):=kept_setCell1 _ _ (fun h=>h rfl) 0 _ X2
 have RA:Hid ((X2.setCell ⟨w.heap.size+1+1+1,0,none⟩ (.int .i64 0)).rangeAt (w.heap.size+1) 0 (se1 fr pw pu px gg lg dd)):=World.rangeAt_setCells_apart R1'.out (w.heap.size+1+1+1) 0 [.int .i64 0] (Or.inl (by omega))
 have RB:Hid ((X2.setCell ⟨w.heap.size+1+1+1,0,none⟩ (.int .i64 0)).rangeAt (w.heap.size+1+1) 0 [.int .u64 0,.int .i64 0]):=World.rangeAt_setCells_apart R2.out (w.heap.size+1+1+1) 0 [.int .i64 0] (Or.inl (by omega))
 have RC:Hid ((X2.setCell ⟨w.heap.size+1+1+1,0,none⟩ (.int .i64 0)).rangeAt (w.heap.size+1+1+1) 0 [.int .i64 0]):=World.rangeAt_setCells_same X2 (w.heap.size+1+1+1) 0 [.int .i64 0] (fun j hj=>by
  obtain rfl:j=0:=by simp at hj;omega
  exact ⟨by rw [Nat.zero_add,c2];rfl,fe⟩)
 clear R1' R2
 refine rda 15 ⟨none,.store 37 (.tmp 10) (.const (.int .i64 0)),_,_,_,none⟩ rfl fun K hK=> ?_
 go_simp
 refine hK.out _ _ ?_ (fun hHeld4=> ?_)
 . exact ⟨(World.cell?_setCell_other _ _ _ _ kt1).trans s0,(World.cell?_setCell_other _ _ _ _ kt1).trans s1,(World.cell?_setCell_other _ _ _ _ kt1).trans s2,(World.cell?_setCell_other _ _ _ _ kt1).trans s3,(World.cell?_setCell_other _ _ _ _ kt1).trans s4,(World.cell?_setCell_other _ _ _ _ kt1).trans s5,(World.cell?_setCell_other _ _ _ _ kt1).trans s6,(World.cell?_setCell_other _ _ _ _ kt1).trans s7,(World.cell?_setCell_other _ _ _ _ kt1).trans s8,(World.cell?_setCell_other _ _ _ _ kt1).trans s9,(World.cell?_setCell_other _ _ _ _ kt1).trans s10,(World.cell?_setCell_other _ _ _ _ kt1).trans s11,(World.cell?_setCell_other _ _ _ _ kt1).trans s12,(World.cell?_setCell_other _ _ _ _ kt1).trans s13,(World.cell?_setCell_other _ _ _ _ kt1).trans s14,(World.cell?_setCell_other _ _ _ _ kt1).trans s15,(World.cell?_setCell_other _ _ _ _ kt1).trans s16,World.there_setCells tf.out (w.heap.size+1+1+1) 0 [.int .i64 0],World.there_setCells tg.out (w.heap.size+1+1+1) 0 [.int .i64 0],⟨0,by have:=RC.out 0 _ rfl;rw [Nat.zero_add] at this;exact this⟩,(World.frozen?_setCell _ _ _ _).trans fe⟩
 clear hK K
 try simp only [Act.put,zaa,zba,zca]
 refine wpAnyH_done ka ?_ _
 refine NoPanic.normal ?_
 clear hHeld4 c2 ce s0 s1 s2 s3 s4 s5 s6 s7 s8 s9 s10 s11 s12 s13 s14 s15 s16 tf tg fe
 generalize X2.setCell ⟨w.heap.size+1+1+1,0,none⟩ (.int .i64 0)=X3 at Q3 RA RB RC |-
 go_wp2_with fail
 refine walk_end w X3 fr pw pu px gg lg dd _ _ rfl rfl rfl RA.out RB.out RC.out ?_
 have zF:=ZF.out
 have dom:=HX.out.1.dom
 obtain ⟨S,hS,hSK⟩:=HX.out.2
 have lS: ∀ j,K0 j->j<w.heap.size:=dom
 have k9:Kept K0 w8 w9:=kept_of_below HB9.out (fun j hj=>nla (lS j hj) HK8.out.size)
 have kX:Kept K0 w8 X3:=k9.trans ((Q1.out.sub (fun j hj=>by have:=lS j hj;omega)).trans ((Q2.out.sub (fun j hj=>by have:=lS j hj;omega)).trans (Q3.out.sub (fun j hj=>by have:=lS j hj;omega))))
 have kW:Kept K0 w X3:=HK8.out.trans kX
 have nS: ∀ f,w.heap.size<=f->f∉S:=fun f hf hs=>by have:=lS f (hSK f hs);omega
 have h8:=HI.out.toS (hS.keep (fun s hs=>HK8.out.block s (hSK s hs)) HK8.out.size)
 have h9:=h8.poke (grown_of_below' HB9.out) (fun f hf=>by cases hf)
 have h10:=h9.poke (grown_of_but Q1.out) (fun f hf=>by cases hf;exact ⟨Or.inr ⟨by omega,by omega⟩,nS _ (by omega)⟩)
 have h11:=h10.poke (grown_of_but Q2.out) (fun f hf=>by cases hf;exact ⟨Or.inr ⟨by omega,by omega⟩,nS _ (by omega)⟩)
 have h12:=h11.poke (grown_of_but Q3.out) (fun f hf=>by cases hf;exact ⟨Or.inr ⟨by omega,by omega⟩,nS _ (by omega)⟩)
 exact ⟨rfl,h12.back (fun j hj=>Or.inl hj) hSK (fun j hj=>nla (lS j hj) kW.size),kW,HT8.out.kept kX HK0.out⟩
def entV (M:Int->Int) (T P:Int):Int:=ld M (T*4096+P*8) (8:Int).toNat
def badV (has:Int->Bool) (M:Int->Int) (T P L ad cd:Int):Option (Int × Int × Int) :=
 if chkG has (T*4096+P*8) 8≠0 then some (0,0,chkG has (T*4096+P*8) 8) else if bt (entV M T P)=false then some (ad,cd,9) else if resV (entV M T P) L=true then some (ad,cd+9,9) else none
def orb (X b:Int):Int:=bits .or .u64 X b
structure WR where
 er:Int
 fa:Int
 fc:Int
 fr:Int
 pw:Bool
 pu:Bool
 px:Bool
 g:Bool
 l:Bool
 d:Bool
 M:Int->Int
abbrev WR.val (r:WR):Value:=.tuple #[.agg (sd1 r.fr r.pw r.pu r.px r.g r.l r.d),.agg #[.int .u64 r.fa,.int .i64 r.fc],.int .i64 r.er]
def WR.no (M:Int->Int) (a c e:Int):WR:=⟨e,a,c,0,false,false,false,false,false,false,M⟩
def end4 (M:Int->Int) (addr cd:Int) (x u f:Bool) (A0 X0 A1 X1 A2 X2 A3 X3:Int):WR :=
 if mayV ((((true && bt (X0 / 2)) && bt (X1 / 2)) && bt (X2 / 2)) && bt (X3 / 2)) ((((true && bt (X0 / 4)) && bt (X1 / 4)) && bt (X2 / 4)) && bt (X3 / 4)) ((((true && !bt (X0 / 9223372036854775808)) && !bt (X1 / 9223372036854775808)) && !bt (X2 / 9223372036854775808)) && !bt (X3 / 9223372036854775808)) x u f=true then
  ⟨0,0,0,X3 / 4096 % 1048576,(((true && bt (X0 / 2)) && bt (X1 / 2)) && bt (X2 / 2)) && bt (X3 / 2),(((true && bt (X0 / 4)) && bt (X1 / 4)) && bt (X2 / 4)) && bt (X3 / 4),(((true && !bt (X0 / 9223372036854775808)) && !bt (X1 / 9223372036854775808)) && !bt (X2 / 9223372036854775808)) && !bt (X3 / 9223372036854775808),bt (X3 / 256),false,bt (X3 / 64) || x,
   mset (mset (mset (mset M A0 8 (orb X0 32)) A1 8 (orb X1 32)) A2 8 (orb X2 32)) A3 8 (orb X3 (if x then 96 else 32))⟩
 else WR.no M addr (cd+1) 9
theorem orb_bd (X b:Int) (h0:0<=X) (h1:X<18446744073709551616) (b0:0<=b) (b1:b<18446744073709551616):0<=orb X b/\orb X b<18446744073709551616:=by
 unfold orb
 rw [u64_or X b h0 h1 b0 b1]
 have:=Nat.or_lt_two_pow (x:=X.toNat) (y:=b.toNat) (n:=64) (by omega) (by omega)
 omega
theorem ent_bd {M:Int->Int} (hM: ∀ t,0<=M t/\M t<256) (T P:Int):0<=entV M T P/\entV M T P<18446744073709551616:=by
 have:=ld_bd hM (T*4096+P*8) 8
 exact this
theorem look_good {rb n:Nat} {has:Int->Bool} {F:Int} {M:Int->Int} (hM: ∀ t,0<=M t/\M t<256) (T P L ad cd:Int) (t0:0<=T) (t1:T<1048576) (p0:0<=P) (p1:P<512) (hb:badV has M T P L ad cd=none) :
 chkG has (T*4096+P*8) 8=0/\Hid (∀ w:World,Rd w rb has F M n->Calls Tryz.prog 98 #[.pointer (some ⟨rb,0,none⟩),.int .i64 T,.int .i64 P,.int .i64 L,.agg #[.int .u64 ad,.int .i64 cd]] w (re (.agg (sb1 (T*4096+P*8) (entV M T P) (bt ((entV M T P))) (bt ((entV M T P) / 2)) (bt ((entV M T P) / 4)) (bt ((entV M T P) / 32)) (bt ((entV M T P) / 64)) (bt ((entV M T P) / 128)) (bt ((entV M T P) / 256)) (bt ((entV M T P) / 9223372036854775808)) ((entV M T P) / 4096 % 1048576) L)) w)):=by
 unfold badV at hb
 split at hb
 . cases hb
 . rename_i h1
   split at hb
   . cases hb
   . rename_i h2
     split at hb
     . cases hb
     . rename_i h3
       have hc:chkG has (T*4096+P*8) 8=0:=by simpa using h1
       have h4:bt (entV M T P)=true:=by simpa using h2
       have h5:resV (entV M T P) L=false:=by simpa using h3
       have hbd:=ent_bd hM T P
       refine ⟨hc,fun w h=> ?_⟩
       exact look_ok T P L ad cd (entV M T P) t0 t1 p0 p1 _ _ _ _ _ _ _ _ _ hc rfl hbd.1 hbd.2 rfl h4 h5 w h
theorem RamX.has {w:World} {K:Nat->Prop} {rb n:Nat} {has:Int->Bool} {F:Int} {M:Int->Int} (h:RamX w K rb has F M n) (k:Int) :
 Hid (∀ W:World,bc w W->Calls Tryz.prog 62 #[.pointer (some ⟨rb,0,none⟩),.int .i64 k] W (re (.bool (has k)) W)):=fun W hb=>by
 obtain ⟨h1,S,hS,hSK⟩:=h
 exact (hS.2.2 W (fun s hs=>hb.block s (hS.2.1 s hs)) hb.size k).mono fun e w' ⟨he,hg⟩=>⟨he,below_of_grown' hg⟩
theorem RamX.rd {w W:World} {K:Nat->Prop} {rb n:Nat} {has:Int->Bool} {F:Int} {M:Int->Int} (h:RamX w K rb has F M n) (ht:Tab w) (hb:bc w W):Rd W rb has F M n :=
 Rd.keep ⟨h.1.ram,ht⟩ hb
theorem chk_pos {has:Int->Bool} (hF: ∀ k,has k=true->0<=k/\k<1048576) {A:Int} (h:chkG has A 8=0) (h0:0<=A):A<18446744073709551616:=by
 unfold chkG at h
 rw [if_pos (by omega)] at h
 split at h
 . rename_i c;omega
 . omega
theorem walk_end4y {w:World} {K0:Nat->Prop} {rb m:Nat} {has:Int->Bool} {F:Int} {M:Int->Int} (hX:RamX w K0 rb has F M m) (ht:Tab w) (k00:K0 0) (hm:m+100<maxLen) (hF: ∀ k,has k=true->0<=k/\k<1048576) (root addr p0 p1 p2 p3 po:Int) (x u f:Bool)
 (hc:Hid (∀ w:World,Calls Tryz.prog 61 #[.int .u64 addr] w fun e w'=>e=.returned (.bool true)/\w'=w))
 (sp:Hid (∀ w:World,Calls Tryz.prog 63 #[.int .u64 addr] w (re (.tuple #[.agg (sc p0 p1 p2 p3),.int .i64 po]) w)))
 (hr:has root=true) (b0:0<=p0/\p0<512) (b1:0<=p1/\p1<512) (b2:0<=p2/\p2<512) (b3:0<=p3/\p3<512)
 (A0 X0 A1 X1 A2 X2 A3 X3:Int) (a0:0<=A0) (c0:chkG has A0 8=0) (x0:0<=X0/\X0<18446744073709551616) (l0:Hid (∀ w:World,Rd w rb has F M m->Calls Tryz.prog 98 #[.pointer (some ⟨rb,0,none⟩),.int .i64 root,.int .i64 p0,.int .i64 4,.agg #[.int .u64 addr,.int .i64 (codeV x u f)]] w (re (.agg (sb1 A0 X0 (bt (X0)) (bt (X0 / 2)) (bt (X0 / 4)) (bt (X0 / 32)) (bt (X0 / 64)) (bt (X0 / 128)) (bt (X0 / 256)) (bt (X0 / 9223372036854775808)) (X0 / 4096 % 1048576) 4)) w))) (a1:0<=A1) (c1:chkG has A1 8=0) (x1:0<=X1/\X1<18446744073709551616) (l1:Hid (∀ w:World,Rd w rb has F M m->Calls Tryz.prog 98 #[.pointer (some ⟨rb,0,none⟩),.int .i64 (X0 / 4096 % 1048576),.int .i64 p1,.int .i64 3,.agg #[.int .u64 addr,.int .i64 (codeV x u f)]] w (re (.agg (sb1 A1 X1 (bt (X1)) (bt (X1 / 2)) (bt (X1 / 4)) (bt (X1 / 32)) (bt (X1 / 64)) (bt (X1 / 128)) (bt (X1 / 256)) (bt (X1 / 9223372036854775808)) (X1 / 4096 % 1048576) 3)) w))) (a2:0<=A2) (c2:chkG has A2 8=0) (x2:0<=X2/\X2<18446744073709551616) (l2:Hid (∀ w:World,Rd w rb has F M m->Calls Tryz.prog 98 #[.pointer (some ⟨rb,0,none⟩),.int .i64 (X1 / 4096 % 1048576),.int .i64 p2,.int .i64 2,.agg #[.int .u64 addr,.int .i64 (codeV x u f)]] w (re (.agg (sb1 A2 X2 (bt (X2)) (bt (X2 / 2)) (bt (X2 / 4)) (bt (X2 / 32)) (bt (X2 / 64)) false (bt (X2 / 256)) (bt (X2 / 9223372036854775808)) (X2 / 4096 % 1048576) 2)) w))) (a3:0<=A3) (c3:chkG has A3 8=0) (x3:0<=X3/\X3<18446744073709551616) (l3:Hid (∀ w:World,Rd w rb has F M m->Calls Tryz.prog 98 #[.pointer (some ⟨rb,0,none⟩),.int .i64 (X2 / 4096 % 1048576),.int .i64 p3,.int .i64 1,.agg #[.int .u64 addr,.int .i64 (codeV x u f)]] w (re (.agg (sb1 A3 X3 (bt (X3)) (bt (X3 / 2)) (bt (X3 / 4)) (bt (X3 / 32)) (bt (X3 / 64)) (bt (X3 / 128)) (bt (X3 / 256)) (bt (X3 / 9223372036854775808)) (X3 / 4096 % 1048576) 1)) w))) (hy:mayV ((((true && bt (X0 / 2)) && bt (X1 / 2)) && bt (X2 / 2)) && bt (X3 / 2)) ((((true && bt (X0 / 4)) && bt (X1 / 4)) && bt (X2 / 4)) && bt (X3 / 4)) ((((true && !bt (X0 / 9223372036854775808)) && !bt (X1 / 9223372036854775808)) && !bt (X2 / 9223372036854775808)) && !bt (X3 / 9223372036854775808)) x u f=true) :
 Calls Tryz.prog 36 #[.pointer (some ⟨rb,0,none⟩),.int .i64 root,.int .u64 addr,.agg #[.bool x,.bool u,.bool f]] w fun e w'=>e=.returned (end4 M addr (codeV x u f) x u f A0 X0 A1 X1 A2 X2 A3 X3).val/\RamX w' K0 rb has F (end4 M addr (codeV x u f) x u f A0 X0 A1 X1 A2 X2 A3 X3).M (m+8)/\Kept K0 w w'/\Tab w':=by
 have fo:Hid (∀ W:World,bc w W->Calls Tryz.prog 65 #[.pointer (some ⟨rb,0,none⟩),.int .i64 root,.agg (sc p0 p1 p2 p3),.agg #[.int .u64 addr,.int .i64 (codeV x u f)]] W fun e w'=> ∃ v,e=.returned v/\Way w' (W.heap.size+2) v 4 (((((([]:List Value)++((sc1 A0 X0 (bt (X0)) (bt (X0 / 2)) (bt (X0 / 4)) (bt (X0 / 32)) (bt (X0 / 64)) (bt (X0 / 128)) (bt (X0 / 256)) (bt (X0 / 9223372036854775808)) (X0 / 4096 % 1048576) 4):List Value))++((sc1 A1 X1 (bt (X1)) (bt (X1 / 2)) (bt (X1 / 4)) (bt (X1 / 32)) (bt (X1 / 64)) (bt (X1 / 128)) (bt (X1 / 256)) (bt (X1 / 9223372036854775808)) (X1 / 4096 % 1048576) 3):List Value))++((sc1 A2 X2 (bt (X2)) (bt (X2 / 2)) (bt (X2 / 4)) (bt (X2 / 32)) (bt (X2 / 64)) false (bt (X2 / 256)) (bt (X2 / 9223372036854775808)) (X2 / 4096 % 1048576) 2):List Value))++((sc1 A3 X3 (bt (X3)) (bt (X3 / 2)) (bt (X3 / 4)) (bt (X3 / 32)) (bt (X3 / 64)) (bt (X3 / 128)) (bt (X3 / 256)) (bt (X3 / 9223372036854775808)) (X3 / 4096 % 1048576) 1):List Value)))/\bc W w'):=fun W hb =>
  follow4 root addr (codeV x u f) p0 p1 p2 p3 _ _ _ _ _ _ _ _ _ _ _ _ _ _ _ _ _ _ _ _ _ _ _ _ _ _ _ _ _ _ _ _ _ _ _ _ _ _ _ _ _ _ _ l0 l1 l2 l3 W (hX.rd ht hb)
 have cm:Hid (∀ (W:World) (base:Nat) (v:Value),Way W base v 4 (((((([]:List Value)++((sc1 A0 X0 (bt (X0)) (bt (X0 / 2)) (bt (X0 / 4)) (bt (X0 / 32)) (bt (X0 / 64)) (bt (X0 / 128)) (bt (X0 / 256)) (bt (X0 / 9223372036854775808)) (X0 / 4096 % 1048576) 4):List Value))++((sc1 A1 X1 (bt (X1)) (bt (X1 / 2)) (bt (X1 / 4)) (bt (X1 / 32)) (bt (X1 / 64)) (bt (X1 / 128)) (bt (X1 / 256)) (bt (X1 / 9223372036854775808)) (X1 / 4096 % 1048576) 3):List Value))++((sc1 A2 X2 (bt (X2)) (bt (X2 / 2)) (bt (X2 / 4)) (bt (X2 / 32)) (bt (X2 / 64)) false (bt (X2 / 256)) (bt (X2 / 9223372036854775808)) (X2 / 4096 % 1048576) 2):List Value))++((sc1 A3 X3 (bt (X3)) (bt (X3 / 2)) (bt (X3 / 4)) (bt (X3 / 32)) (bt (X3 / 64)) (bt (X3 / 128)) (bt (X3 / 256)) (bt (X3 / 9223372036854775808)) (X3 / 4096 % 1048576) 1):List Value)))->Calls Tryz.prog 66 #[v] W (re (.agg (sn ((((true && bt (X0 / 2)) && bt (X1 / 2)) && bt (X2 / 2)) && bt (X3 / 2)) ((((true && bt (X0 / 4)) && bt (X1 / 4)) && bt (X2 / 4)) && bt (X3 / 4)) ((((true && !bt (X0 / 9223372036854775808)) && !bt (X1 / 9223372036854775808)) && !bt (X2 / 9223372036854775808)) && !bt (X3 / 9223372036854775808)))) W)):=fun W base v h =>
  common4 _ _ _ _ _ _ _ _ _ _ _ _ _ _ _ _ _ _ _ _ _ _ _ _ _ _ _ _ _ _ _ _ _ _ _ _ _ _ _ _ _ _ _ base v W h
 have co:Hid (∀ w:World,Calls Tryz.prog 64 #[.agg #[.bool x,.bool u,.bool f]] w (re (.int .i64 (codeV x u f)) w)):=fun w=>code_any x u f w
 have hh:=hX.has root
 rw [hr] at hh
 unfold end4
 rw [if_pos hy]
 have ma:Hid (∀ W:World,Calls Tryz.prog 34 #[.agg (sn ((((true && bt (X0 / 2)) && bt (X1 / 2)) && bt (X2 / 2)) && bt (X3 / 2)) ((((true && bt (X0 / 4)) && bt (X1 / 4)) && bt (X2 / 4)) && bt (X3 / 4)) ((((true && !bt (X0 / 9223372036854775808)) && !bt (X1 / 9223372036854775808)) && !bt (X2 / 9223372036854775808)) && !bt (X3 / 9223372036854775808))),.agg #[.bool x,.bool u,.bool f]] W (re (.bool true) W)):=fun W=>by
  have:=may_any ((((true && bt (X0 / 2)) && bt (X1 / 2)) && bt (X2 / 2)) && bt (X3 / 2)) ((((true && bt (X0 / 4)) && bt (X1 / 4)) && bt (X2 / 4)) && bt (X3 / 4)) ((((true && !bt (X0 / 9223372036854775808)) && !bt (X1 / 9223372036854775808)) && !bt (X2 / 9223372036854775808)) && !bt (X3 / 9223372036854775808)) x u f W
  rw [hy] at this;exact this
 have mk:Hid (∀ (W:World) (K:Nat->Prop) (base:Nat) (v:Value),Way W base v 4 (((((([]:List Value)++((sc1 A0 X0 (bt (X0)) (bt (X0 / 2)) (bt (X0 / 4)) (bt (X0 / 32)) (bt (X0 / 64)) (bt (X0 / 128)) (bt (X0 / 256)) (bt (X0 / 9223372036854775808)) (X0 / 4096 % 1048576) 4):List Value))++((sc1 A1 X1 (bt (X1)) (bt (X1 / 2)) (bt (X1 / 4)) (bt (X1 / 32)) (bt (X1 / 64)) (bt (X1 / 128)) (bt (X1 / 256)) (bt (X1 / 9223372036854775808)) (X1 / 4096 % 1048576) 3):List Value))++((sc1 A2 X2 (bt (X2)) (bt (X2 / 2)) (bt (X2 / 4)) (bt (X2 / 32)) (bt (X2 / 64)) false (bt (X2 / 256)) (bt (X2 / 9223372036854775808)) (X2 / 4096 % 1048576) 2):List Value))++((sc1 A3 X3 (bt (X3)) (bt (X3 / 2)) (bt (X3 / 4)) (bt (X3 / 32)) (bt (X3 / 64)) (bt (X3 / 128)) (bt (X3 / 256)) (bt (X3 / 9223372036854775808)) (X3 / 4096 % 1048576) 1):List Value)))->(∀ j,base<=j->j<W.heap.size->K j)->K 0->Tab W->IsRamK W K rb has F M m->Calls Tryz.prog 68 #[.pointer (some ⟨rb,0,none⟩),v,.bool x] W fun e w'=>e=.returned (.tuple #[])/\IsRamK w' K rb has F (mset (mset (mset (mset M A0 8 (orb X0 32)) A1 8 (orb X1 32)) A2 8 (orb X2 32)) A3 8 (orb X3 (if x then 96 else 32))) (m+8)/\Kept K W w'/\Tab w'):=fun W K base v hw hK hk hT hI=>by
  cases x
  . exact (mark4r hm A0 X0 (X0 / 4096 % 1048576) _ _ _ _ _ _ _ _ A1 X1 (X1 / 4096 % 1048576) _ _ _ _ _ _ _ _ A2 X2 (X2 / 4096 % 1048576) _ _ _ _ _ _ _ A3 X3 (X3 / 4096 % 1048576) _ _ _ _ _ _ _ _ (orb X0 32) (orb X1 32) (orb X2 32) (orb X3 32) a0 (chk_pos hF c0 a0) c0 rfl (orb_bd X0 32 x0.1 x0.2 (by omega) (by omega)).1 (orb_bd X0 32 x0.1 x0.2 (by omega) (by omega)).2 a1 (chk_pos hF c1 a1) c1 rfl (orb_bd X1 32 x1.1 x1.2 (by omega) (by omega)).1 (orb_bd X1 32 x1.1 x1.2 (by omega) (by omega)).2 a2 (chk_pos hF c2 a2) c2 rfl (orb_bd X2 32 x2.1 x2.2 (by omega) (by omega)).1 (orb_bd X2 32 x2.1 x2.2 (by omega) (by omega)).2 a3 (chk_pos hF c3 a3) c3 rfl (orb_bd X3 32 x3.1 x3.2 (by omega) (by omega)).1 (orb_bd X3 32 x3.1 x3.2 (by omega) (by omega)).2 base v W hw hK hk hT hI).mono fun e w' h=>⟨h.1,h.2.1.mono (by omega),h.2.2⟩
  . exact (mark4w hm A0 X0 (X0 / 4096 % 1048576) _ _ _ _ _ _ _ _ A1 X1 (X1 / 4096 % 1048576) _ _ _ _ _ _ _ _ A2 X2 (X2 / 4096 % 1048576) _ _ _ _ _ _ _ A3 X3 (X3 / 4096 % 1048576) _ _ _ _ _ _ _ _ (orb X0 32) (orb X1 32) (orb X2 32) (orb X3 96) a0 (chk_pos hF c0 a0) c0 rfl (orb_bd X0 32 x0.1 x0.2 (by omega) (by omega)).1 (orb_bd X0 32 x0.1 x0.2 (by omega) (by omega)).2 a1 (chk_pos hF c1 a1) c1 rfl (orb_bd X1 32 x1.1 x1.2 (by omega) (by omega)).1 (orb_bd X1 32 x1.1 x1.2 (by omega) (by omega)).2 a2 (chk_pos hF c2 a2) c2 rfl (orb_bd X2 32 x2.1 x2.2 (by omega) (by omega)).1 (orb_bd X2 32 x2.1 x2.2 (by omega) (by omega)).2 a3 (chk_pos hF c3 a3) c3 rfl (orb_bd X3 96 x3.1 x3.2 (by omega) (by omega)).1 (orb_bd X3 96 x3.1 x3.2 (by omega) (by omega)).2 base v W hw hK hk hT hI).mono fun e w' h=>⟨h.1,h.2.1.mono (by omega),h.2.2⟩
 have te:Hid (∀ W:World,Calls Tryz.prog 69 #[.agg (sb1 A3 X3 (bt (X3)) (bt (X3 / 2)) (bt (X3 / 4)) (bt (X3 / 32)) (bt (X3 / 64)) (bt (X3 / 128)) (bt (X3 / 256)) (bt (X3 / 9223372036854775808)) (X3 / 4096 % 1048576) 1),.agg (sn ((((true && bt (X0 / 2)) && bt (X1 / 2)) && bt (X2 / 2)) && bt (X3 / 2)) ((((true && bt (X0 / 4)) && bt (X1 / 4)) && bt (X2 / 4)) && bt (X3 / 4)) ((((true && !bt (X0 / 9223372036854775808)) && !bt (X1 / 9223372036854775808)) && !bt (X2 / 9223372036854775808)) && !bt (X3 / 9223372036854775808))),.int .i64 p3,.bool x] W (re (.agg (sd1 (X3 / 4096 % 1048576) ((((true && bt (X0 / 2)) && bt (X1 / 2)) && bt (X2 / 2)) && bt (X3 / 2)) ((((true && bt (X0 / 4)) && bt (X1 / 4)) && bt (X2 / 4)) && bt (X3 / 4)) ((((true && !bt (X0 / 9223372036854775808)) && !bt (X1 / 9223372036854775808)) && !bt (X2 / 9223372036854775808)) && !bt (X3 / 9223372036854775808)) (bt (X3 / 256)) false (bt (X3 / 64) || x))) W)):=fun W=>by
  cases hd:bt (X3 / 64)
  . exact tell_small_f A3 X3 (X3 / 4096 % 1048576) 1 p3 _ _ _ _ _ _ _ _ _ _ x rfl W
  . exact tell_small_t A3 X3 (X3 / 4096 % 1048576) 1 p3 _ _ _ _ _ _ _ _ _ _ x rfl W
 exact walk_ok4 root addr p0 p1 p2 p3 po (codeV x u f) x u f hc sp co w hh (((((([]:List Value)++((sc1 A0 X0 (bt (X0)) (bt (X0 / 2)) (bt (X0 / 4)) (bt (X0 / 32)) (bt (X0 / 64)) (bt (X0 / 128)) (bt (X0 / 256)) (bt (X0 / 9223372036854775808)) (X0 / 4096 % 1048576) 4):List Value))++((sc1 A1 X1 (bt (X1)) (bt (X1 / 2)) (bt (X1 / 4)) (bt (X1 / 32)) (bt (X1 / 64)) (bt (X1 / 128)) (bt (X1 / 256)) (bt (X1 / 9223372036854775808)) (X1 / 4096 % 1048576) 3):List Value))++((sc1 A2 X2 (bt (X2)) (bt (X2 / 2)) (bt (X2 / 4)) (bt (X2 / 32)) (bt (X2 / 64)) false (bt (X2 / 256)) (bt (X2 / 9223372036854775808)) (X2 / 4096 % 1048576) 2):List Value))++((sc1 A3 X3 (bt (X3)) (bt (X3 / 2)) (bt (X3 / 4)) (bt (X3 / 32)) (bt (X3 / 64)) (bt (X3 / 128)) (bt (X3 / 256)) (bt (X3 / 9223372036854775808)) (X3 / 4096 % 1048576) 1):List Value))) _ _ _ fo cm _ hX ht k00 _ _ _ _ _ _ _ _ _ _ _ _ _ _ _ _ rfl rfl rfl rfl rfl rfl rfl rfl rfl rfl rfl rfl ma mk te
def Path (has:Int->Bool) (M:Int->Int) (root addr:Int) (x u f:Bool) (r:WR):Prop :=
 ∃ p0 p1 p2 p3 X0 X1 X2 X3 T1 T2 T3:Int,(ext addr==addr)=true/\has root=true/\(addr / 4096 / 512 / 512 / 512 % 512=p0/\addr / 4096 / 512 / 512 % 512=p1/\addr / 4096 / 512 % 512=p2/\addr / 4096 % 512=p3) /\
  (entV M root p0=X0/\badV has M root p0 4 addr (codeV x u f)=none/\X0 / 4096 % 1048576=T1)/\(entV M T1 p1=X1/\badV has M T1 p1 3 addr (codeV x u f)=none/\X1 / 4096 % 1048576=T2)/\(entV M T2 p2=X2/\badV has M T2 p2 2 addr (codeV x u f)=none/\bt (X2 / 128)=false/\X2 / 4096 % 1048576=T3)/\(entV M T3 p3=X3/\badV has M T3 p3 1 addr (codeV x u f)=none) /\
  mayV ((((true && bt (X0 / 2)) && bt (X1 / 2)) && bt (X2 / 2)) && bt (X3 / 2)) ((((true && bt (X0 / 4)) && bt (X1 / 4)) && bt (X2 / 4)) && bt (X3 / 4)) ((((true && !bt (X0 / 9223372036854775808)) && !bt (X1 / 9223372036854775808)) && !bt (X2 / 9223372036854775808)) && !bt (X3 / 9223372036854775808)) x u f=true/\r=end4 M addr (codeV x u f) x u f (root*4096+p0*8) X0 (T1*4096+p1*8) X1 (T2*4096+p2*8) X2 (T3*4096+p3*8) X3
theorem walk_path {w:World} {K0:Nat->Prop} {rb m:Nat} {has:Int->Bool} {F:Int} {M:Int->Int} (hX:RamX w K0 rb has F M m) (ht:Tab w) (k00:K0 0) (hm:m+100<maxLen) (hF: ∀ k,has k=true->0<=k/\k<1048576) (root addr:Int) (a0:0<=addr) (a1:addr<18446744073709551616) (x u f:Bool) {r:WR} (hp:Path has M root addr x u f r) :
 Calls Tryz.prog 36 #[.pointer (some ⟨rb,0,none⟩),.int .i64 root,.int .u64 addr,.agg #[.bool x,.bool u,.bool f]] w fun e w'=>e=.returned r.val/\RamX w' K0 rb has F r.M (m+8)/\Kept K0 w w'/\Tab w':=by
 obtain ⟨p0,p1,p2,p3,X0,X1,X2,X3,T1,T2,T3,hc,hr,⟨q0,q1,q2,q3⟩,⟨e0,n0,t1⟩,⟨e1,n1,t2⟩,⟨e2,n2,nl,t3⟩,⟨e3,n3⟩,hy,rfl⟩:=hp
 have hM:=hX.1.byte
 have r0:=hF root hr
 have g0:=look_good (rb:=rb) (n:=m) (F:=F) hM root p0 4 addr (codeV x u f) r0.1 r0.2 (by omega) (by omega) n0
 have g1:=look_good (rb:=rb) (n:=m) (F:=F) hM T1 p1 3 addr (codeV x u f) (by omega) (by omega) (by omega) (by omega) n1
 have g2:=look_good (rb:=rb) (n:=m) (F:=F) hM T2 p2 2 addr (codeV x u f) (by omega) (by omega) (by omega) (by omega) n2
 have g3:=look_good (rb:=rb) (n:=m) (F:=F) hM T3 p3 1 addr (codeV x u f) (by omega) (by omega) (by omega) (by omega) n3
 have x0:=ent_bd hM root p0
 have x1:=ent_bd hM T1 p1
 have x2:=ent_bd hM T2 p2
 have x3:=ent_bd hM T3 p3
 rw [e0] at g0 x0
 rw [e1] at g1 x1
 rw [e2,nl] at g2
 rw [e2] at x2
 rw [e3] at g3 x3
 have h:Hid (∀ w:World,Calls Tryz.prog 61 #[.int .u64 addr] w fun e w'=>e=.returned (.bool true)/\w'=w):=fun w=>by
  have:=canonical_any addr a0 a1 w
  rw [hc] at this;exact this
 have sp:=fun w=>split_any addr a0 a1 w
 rw [q0,q1,q2,q3] at sp
 subst t1 t2 t3
 exact walk_end4y hX ht k00 hm hF root addr p0 p1 p2 p3 (addr % 4096) x u f h sp hr (by omega) (by omega) (by omega) (by omega) _ X0 _ X1 _ X2 _ X3 (by omega) g0.1 x0 g0.2 (by omega) g1.1 x1 g1.2 (by omega) g2.1 x2 g2.2 (by omega) g3.1 x3 g3.2 hy
end Go.Proofs.YtgbdnnkkcpkhdaaGreatDoor
