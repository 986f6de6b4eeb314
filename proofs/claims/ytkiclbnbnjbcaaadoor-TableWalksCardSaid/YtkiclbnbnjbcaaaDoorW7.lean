import Derived.Test.YtkiclbnbnjbcaaaDoorKZ
import Derived.Test.YtkiclbnbnjbcaaaDoorMV
import Derived.Deep.RegionHeld3
import Derived.Deep.DrawnRows
namespace Go.Proofs.YtkiclbnbnjbcaaaDoor
open Go.ChangeShapes Go.WideShapes Go.ChangeAt Go.RowKit Go.Maps
set_option linter.unusedSimpArgs false
set_option linter.unusedVariables false
set_option maxRecDepth 8000
set_option maxHeartbeats 400000 in
theorem large_at (A X f L:Int) (y0 y1 y2 y3 y4 y5 y6 y7:Bool) (w:World):Calls Tryd.prog 77 #[stepv A X y0 y1 y2 y3 y4 y5 y6 y7 f L] w fun e w'=>e=.returned (.bool (L==2 && y5))/\w'=w.alloc (.cells #[.int .u64 A,.int .u64 X,.bool y0,.bool y1,.bool y2,.bool y3,.bool y4,.bool y5,.bool y6,.bool y7,.int .i64 f,.int .i64 L] 131):=by
 unfold stepv
 by_cases h:L=2
 . subst h
   go_enter Tryd.func77,Tryd.ntmps77
   go_wp2_with fail
   go_returns
   exact ⟨by simp,rfl⟩
 . have h2:(L==2)=false:=by simp [h]
   go_enter Tryd.func77,Tryd.ntmps77
   go_wp2_with fail
   go_returns
   exact ⟨by simp [h2],rfl⟩
set_option maxHeartbeats 400000 in
theorem tell_small_f (A X f L inside:Int) (y0 y1 y2 y3 y5 y6 y7 pw pu px wr:Bool) (hL:(L==2 && y5)=false) (w:World) :
 Calls Tryd.prog 55 #[.agg #[.int .u64 A,.int .u64 X,.bool y0,.bool y1,.bool y2,.bool y3,.bool false,.bool y5,.bool y6,.bool y7,.int .i64 f,.int .i64 L],.agg #[.bool pw,.bool pu,.bool px],.int .i64 inside,.bool wr] w fun e w'=>e=.returned (.agg #[.int .i64 f,.bool pw,.bool pu,.bool px,.bool y6,.bool false,.bool wr])/\Below w.heap.size w w':=by
 have LA:Hid (∀ w:World,Calls Tryd.prog 77 #[.agg #[.int .u64 A,.int .u64 X,.bool y0,.bool y1,.bool y2,.bool y3,.bool false,.bool y5,.bool y6,.bool y7,.int .i64 f,.int .i64 L]] w fun e w'=>e=.returned (.bool false)/\w'=w.alloc (.cells #[.int .u64 A,.int .u64 X,.bool y0,.bool y1,.bool y2,.bool y3,.bool false,.bool y5,.bool y6,.bool y7,.int .i64 f,.int .i64 L] 131)):=fun w=>by
  have:=large_at A X f L y0 y1 y2 y3 false y5 y6 y7 w
  rw [hL] at this;exact this
 clear hL
 go_enter Tryd.func55,Tryd.ntmps55
 go_wp2_with fail
 go_region_held3 (fun u=>u.cell? ⟨w.heap.size,0,none⟩=some (.int .u64 A)/\u.cell? ⟨w.heap.size,1,none⟩=some (.int .u64 X)/\u.cell? ⟨w.heap.size,2,none⟩=some (.bool y0)/\u.cell? ⟨w.heap.size,3,none⟩=some (.bool y1)/\u.cell? ⟨w.heap.size,4,none⟩=some (.bool y2)/\u.cell? ⟨w.heap.size,5,none⟩=some (.bool y3)/\u.cell? ⟨w.heap.size,6,none⟩=some (.bool false)/\u.cell? ⟨w.heap.size,7,none⟩=some (.bool y5)/\u.cell? ⟨w.heap.size,8,none⟩=some (.bool y6)/\u.cell? ⟨w.heap.size,9,none⟩=some (.bool y7)/\u.cell? ⟨w.heap.size,10,none⟩=some (.int .i64 f)/\u.cell? ⟨w.heap.size,11,none⟩=some (.int .i64 L)/\u.cell? ⟨w.heap.size+1,0,none⟩=some (.bool pw)/\u.cell? ⟨w.heap.size+1,1,none⟩=some (.bool pu)/\u.cell? ⟨w.heap.size+1,2,none⟩=some (.bool px)) ((go_split_ands;(repeat' apply And.intro) <;> first | (with_reducible assumption) | (simp [*];done) | (simp (disch:=(simp;try omega)) [World.cell?_alloc_lt];done)))
  (first | (go_at_call 77;refine (LA.out _).mono ?_;rintro e w' ⟨rfl,rfl⟩))
 all_goals go_wp2_with fail
 all_goals
  go_returns
  refine ⟨rfl,?_⟩
  exact (((((((Below.refl _ _).alloc (by simp) _).alloc (by simp;try omega) _).alloc (by simp;try omega) _).alloc (by simp;try omega) _).alloc (by simp;try omega) _)).drew
set_option maxHeartbeats 400000 in
theorem tell_small_t (A X f L inside:Int) (y0 y1 y2 y3 y5 y6 y7 pw pu px wr:Bool) (hL:(L==2 && y5)=false) (w:World) :
 Calls Tryd.prog 55 #[.agg #[.int .u64 A,.int .u64 X,.bool y0,.bool y1,.bool y2,.bool y3,.bool true,.bool y5,.bool y6,.bool y7,.int .i64 f,.int .i64 L],.agg #[.bool pw,.bool pu,.bool px],.int .i64 inside,.bool wr] w fun e w'=>e=.returned (.agg #[.int .i64 f,.bool pw,.bool pu,.bool px,.bool y6,.bool false,.bool true])/\Below w.heap.size w w':=by
 have LA:Hid (∀ w:World,Calls Tryd.prog 77 #[.agg #[.int .u64 A,.int .u64 X,.bool y0,.bool y1,.bool y2,.bool y3,.bool true,.bool y5,.bool y6,.bool y7,.int .i64 f,.int .i64 L]] w fun e w'=>e=.returned (.bool false)/\w'=w.alloc (.cells #[.int .u64 A,.int .u64 X,.bool y0,.bool y1,.bool y2,.bool y3,.bool true,.bool y5,.bool y6,.bool y7,.int .i64 f,.int .i64 L] 131)):=fun w=>by
  have:=large_at A X f L y0 y1 y2 y3 true y5 y6 y7 w
  rw [hL] at this;exact this
 clear hL
 go_enter Tryd.func55,Tryd.ntmps55
 go_wp2_with fail
 refine wp_region_noPanic ?_
 refine wp_region_held_drew (S:=fun u=>u.cell? ⟨w.heap.size,0,none⟩=some (.int .u64 A)/\u.cell? ⟨w.heap.size,1,none⟩=some (.int .u64 X)/\u.cell? ⟨w.heap.size,2,none⟩=some (.bool y0)/\u.cell? ⟨w.heap.size,3,none⟩=some (.bool y1)/\u.cell? ⟨w.heap.size,4,none⟩=some (.bool y2)/\u.cell? ⟨w.heap.size,5,none⟩=some (.bool y3)/\u.cell? ⟨w.heap.size,6,none⟩=some (.bool true)/\u.cell? ⟨w.heap.size,7,none⟩=some (.bool y5)/\u.cell? ⟨w.heap.size,8,none⟩=some (.bool y6)/\u.cell? ⟨w.heap.size,9,none⟩=some (.bool y7)/\u.cell? ⟨w.heap.size,10,none⟩=some (.int .i64 f)/\u.cell? ⟨w.heap.size,11,none⟩=some (.int .i64 L)/\u.cell? ⟨w.heap.size+1,0,none⟩=some (.bool pw)/\u.cell? ⟨w.heap.size+1,1,none⟩=some (.bool pu)/\u.cell? ⟨w.heap.size+1,2,none⟩=some (.bool px)) (by kernel_rfl) ?_ (fun hHeld=> ?_)
 . (try dsimp only);((go_split_ands;(repeat' apply And.intro) <;> first | (with_reducible assumption) | (simp [*];done) | (simp (disch:=(simp;try omega)) [World.cell?_alloc_lt];done)))
 refine tk0 0 ?_ rfl (Or.inl ⟨by rfl,?_⟩) ?_
 rotate_left
 . intro w hSw;(try dsimp only at hSw);go_simp;(try with_reducible rfl)
 try simp only [Act.put,z1,z2,z3]
 refine tk0 1 ?_ rfl (Or.inl ⟨by rfl,?_⟩) ?_
 rotate_left
 . intro w hSw;(try dsimp only at hSw);go_simp;(try with_reducible rfl)
 try simp only [Act.put,z1,z2,z3]
 refine tk0 2 ?_ rfl (Or.inl ⟨by rfl,?_⟩) ?_
 rotate_left
 . intro w hSw;(try dsimp only at hSw);go_simp;(try with_reducible rfl)
 try simp only [Act.put,z1,z2,z3]
 refine tk0 3 ?_ rfl (Or.inl ⟨by rfl,?_⟩) ?_
 rotate_left
 . intro w hSw;(try dsimp only at hSw);go_simp;(try with_reducible rfl)
 try simp only [Act.put,z1,z2,z3]
 refine tk0 4 ?_ rfl (Or.inl ⟨by rfl,?_⟩) ?_
 rotate_left
 . intro w hSw;(try dsimp only at hSw);go_simp;(try with_reducible rfl)
 try simp only [Act.put,z1,z2,z3]
 refine tk0 5 ?_ rfl (Or.inl ⟨by rfl,?_⟩) ?_
 rotate_left
 . intro w hSw;(try dsimp only at hSw);go_simp;(try with_reducible rfl)
 try simp only [Act.put,z1,z2,z3]
 refine tk0 6 ?_ rfl (Or.inl ⟨by rfl,?_⟩) ?_
 rotate_left
 . intro w hSw;(try dsimp only at hSw);go_simp;(try with_reducible rfl)
 try simp only [Act.put,z1,z2,z3]
 refine tk0 7 ?_ rfl (Or.inl ⟨by rfl,?_⟩) ?_
 rotate_left
 . intro w hSw;(try dsimp only at hSw);go_simp;(try with_reducible rfl)
 try simp only [Act.put,z1,z2,z3]
 refine tk0 9 ?_ rfl (Or.inl ⟨by rfl,?_⟩) ?_
 rotate_left
 . intro w hSw;(try dsimp only at hSw);go_simp;(try with_reducible rfl)
 try simp only [Act.put,z1,z2,z3]
 refine tk0 10 ?_ rfl (Or.inl ⟨by rfl,?_⟩) ?_
 rotate_left
 . intro w hSw;(try dsimp only at hSw);go_simp;(try with_reducible rfl)
 try simp only [Act.put,z1,z2,z3]
 refine tk0 11 ?_ rfl (Or.inl ⟨by rfl,?_⟩) ?_
 rotate_left
 . intro w hSw;(try dsimp only at hSw);go_simp;(try with_reducible rfl)
 try simp only [Act.put,z1,z2,z3]
 refine wpAnyH_ready (rs:=[8,16]) (by kernel_rfl) (by simp) ?_
 refine AllReadyH.cons rfl (fun K hK=> ?_) (AllReadyH.cons rfl (fun K hK=> ?_) AllReadyH.nil)
 . go_simp
   go_wp2_with (go_at_call 77;refine (LA.out _).mono ?_;rintro e w' ⟨rfl,rfl⟩)
   refine hK.out _ _ ?_ (fun hHeld=> ?_)
   . (try dsimp only);((go_split_ands;(repeat' apply And.intro) <;> first | (with_reducible assumption) | (simp [*];done) | (simp (disch:=(simp;try omega)) [World.cell?_alloc_lt];done)))
   clear hK K
   try simp only [Act.put,z1,z2,z3]
   refine tk0 12 ?_ rfl (Or.inl ⟨by rfl,?_⟩) ?_
   rotate_left
   . intro w hSw;(try dsimp only at hSw);go_simp;(try with_reducible rfl)
   try simp only [Act.put,z1,z2,z3]
   refine tk0 13 undef rfl (Or.inr ⟨by rfl,rfl⟩) ?_
   try simp only [Act.put,z1,z2,z3]
   refine tk0 14 ?_ rfl (Or.inl ⟨by rfl,?_⟩) ?_
   rotate_left
   . intro w hSw;(try dsimp only at hSw);go_simp;(try with_reducible rfl)
   try simp only [Act.put,z1,z2,z3]
   refine tk0 15 ?_ rfl (Or.inl ⟨by rfl,?_⟩) ?_
   rotate_left
   . intro w hSw;(try dsimp only at hSw);go_simp;(try with_reducible rfl)
   try simp only [Act.put,z1,z2,z3]
   refine wpAnyH_ready (rs:=[16]) (by kernel_rfl) (by simp) ?_
   refine AllReadyH.cons rfl (fun K hK=> ?_) AllReadyH.nil
   go_simp
   refine hK.out _ _ ?_ (fun hHeld=> ?_)
   . (try dsimp only);((go_split_ands;(repeat' apply And.intro) <;> first | (with_reducible assumption) | (simp [*];done) | (simp (disch:=(simp;try omega)) [World.cell?_alloc_lt];done)))
   clear hK K
   try simp only [Act.put,z1,z2,z3]
   refine wpAnyH_ready (rs:=[17]) (by kernel_rfl) (by simp) ?_
   refine AllReadyH.cons rfl (fun K hK=> ?_) AllReadyH.nil
   go_simp
   refine hK.out _ _ ?_ (fun hHeld=> ?_)
   . (try dsimp only);((go_split_ands;(repeat' apply And.intro) <;> first | (with_reducible assumption) | (simp [*];done) | (simp (disch:=(simp;try omega)) [World.cell?_alloc_lt];done)))
   clear hK K
   try simp only [Act.put,z1,z2,z3]
   refine wpAnyH_done (by kernel_rfl) ?_ _
   refine NoPanic.normal ?_
   go_wp2_with fail
   go_returns
   refine ⟨rfl,?_⟩
   exact (((((((Below.refl _ _).alloc (by simp) _).alloc (by simp;try omega) _).alloc (by simp;try omega) _).alloc (by simp;try omega) _).alloc (by simp;try omega) _)).drew
 . go_simp
   refine hK.out _ _ ?_ (fun hHeld=> ?_)
   . (try dsimp only);((go_split_ands;(repeat' apply And.intro) <;> first | (with_reducible assumption) | (simp [*];done) | (simp (disch:=(simp;try omega)) [World.cell?_alloc_lt];done)))
   clear hK K
   try simp only [Act.put,z1,z2,z3]
   refine wpAnyH_ready (rs:=[8]) (by kernel_rfl) (by simp) ?_
   refine AllReadyH.cons rfl (fun K hK=> ?_) AllReadyH.nil
   go_simp
   go_wp2_with (go_at_call 77;refine (LA.out _).mono ?_;rintro e w' ⟨rfl,rfl⟩)
   refine hK.out _ _ ?_ (fun hHeld=> ?_)
   . (try dsimp only);((go_split_ands;(repeat' apply And.intro) <;> first | (with_reducible assumption) | (simp [*];done) | (simp (disch:=(simp;try omega)) [World.cell?_alloc_lt];done)))
   clear hK K
   try simp only [Act.put,z1,z2,z3]
   refine tk0 12 ?_ rfl (Or.inl ⟨by rfl,?_⟩) ?_
   rotate_left
   . intro w hSw;(try dsimp only at hSw);go_simp;(try with_reducible rfl)
   try simp only [Act.put,z1,z2,z3]
   refine tk0 13 undef rfl (Or.inr ⟨by rfl,rfl⟩) ?_
   try simp only [Act.put,z1,z2,z3]
   refine tk0 14 ?_ rfl (Or.inl ⟨by rfl,?_⟩) ?_
   rotate_left
   . intro w hSw;(try dsimp only at hSw);go_simp;(try with_reducible rfl)
   try simp only [Act.put,z1,z2,z3]
   refine tk0 15 ?_ rfl (Or.inl ⟨by rfl,?_⟩) ?_
   rotate_left
   . intro w hSw;(try dsimp only at hSw);go_simp;(try with_reducible rfl)
   try simp only [Act.put,z1,z2,z3]
   refine wpAnyH_ready (rs:=[17]) (by kernel_rfl) (by simp) ?_
   refine AllReadyH.cons rfl (fun K hK=> ?_) AllReadyH.nil
   go_simp
   refine hK.out _ _ ?_ (fun hHeld=> ?_)
   . (try dsimp only);((go_split_ands;(repeat' apply And.intro) <;> first | (with_reducible assumption) | (simp [*];done) | (simp (disch:=(simp;try omega)) [World.cell?_alloc_lt];done)))
   clear hK K
   try simp only [Act.put,z1,z2,z3]
   refine wpAnyH_done (by kernel_rfl) ?_ _
   refine NoPanic.normal ?_
   go_wp2_with fail
   go_returns
   refine ⟨rfl,?_⟩
   exact (((((((Below.refl _ _).alloc (by simp) _).alloc (by simp;try omega) _).alloc (by simp;try omega) _).alloc (by simp;try omega) _).alloc (by simp;try omega) _)).drew
set_option maxHeartbeats 400000 in
theorem tell_large_f (A X f inside:Int) (y0 y1 y2 y3 y6 y7 pw pu px wr:Bool) (i0:0<=inside) (i1:inside<512) (f0:0<=f) (f1:f<1099511627776) (w:World) :
 Calls Tryd.prog 55 #[.agg #[.int .u64 A,.int .u64 X,.bool y0,.bool y1,.bool y2,.bool y3,.bool false,.bool true,.bool y6,.bool y7,.int .i64 f,.int .i64 2],.agg #[.bool pw,.bool pu,.bool px],.int .i64 inside,.bool wr] w fun e w'=>e=.returned (.agg #[.int .i64 (f+inside),.bool pw,.bool pu,.bool px,.bool y6,.bool true,.bool wr])/\Below w.heap.size w w':=by
 have LA:Hid (∀ w:World,Calls Tryd.prog 77 #[.agg #[.int .u64 A,.int .u64 X,.bool y0,.bool y1,.bool y2,.bool y3,.bool false,.bool true,.bool y6,.bool y7,.int .i64 f,.int .i64 2]] w fun e w'=>e=.returned (.bool true)/\w'=w.alloc (.cells #[.int .u64 A,.int .u64 X,.bool y0,.bool y1,.bool y2,.bool y3,.bool false,.bool true,.bool y6,.bool y7,.int .i64 f,.int .i64 2] 131)):=fun w=>by
  have:=large_at A X f 2 y0 y1 y2 y3 false true y6 y7 w
  exact this
 go_enter Tryd.func55,Tryd.ntmps55
 go_wp2_with fail
 go_region_held3 (fun u=>u.cell? ⟨w.heap.size,0,none⟩=some (.int .u64 A)/\u.cell? ⟨w.heap.size,1,none⟩=some (.int .u64 X)/\u.cell? ⟨w.heap.size,2,none⟩=some (.bool y0)/\u.cell? ⟨w.heap.size,3,none⟩=some (.bool y1)/\u.cell? ⟨w.heap.size,4,none⟩=some (.bool y2)/\u.cell? ⟨w.heap.size,5,none⟩=some (.bool y3)/\u.cell? ⟨w.heap.size,6,none⟩=some (.bool false)/\u.cell? ⟨w.heap.size,7,none⟩=some (.bool true)/\u.cell? ⟨w.heap.size,8,none⟩=some (.bool y6)/\u.cell? ⟨w.heap.size,9,none⟩=some (.bool y7)/\u.cell? ⟨w.heap.size,10,none⟩=some (.int .i64 f)/\u.cell? ⟨w.heap.size,11,none⟩=some (.int .i64 2)/\u.cell? ⟨w.heap.size+1,0,none⟩=some (.bool pw)/\u.cell? ⟨w.heap.size+1,1,none⟩=some (.bool pu)/\u.cell? ⟨w.heap.size+1,2,none⟩=some (.bool px)) ((go_split_ands;(repeat' apply And.intro) <;> first | (with_reducible assumption) | (simp [*];done) | (simp (disch:=(simp;try omega)) [World.cell?_alloc_lt];done)))
  (first | (go_at_call 77;refine (LA.out _).mono ?_;rintro e w' ⟨rfl,rfl⟩))
 all_goals go_wp2_with fail
 all_goals
  go_returns
  refine ⟨rfl,?_⟩
  exact (((((((Below.refl _ _).alloc (by simp) _).alloc (by simp;try omega) _).alloc (by simp;try omega) _).alloc (by simp;try omega) _).alloc (by simp;try omega) _)).drew
set_option maxHeartbeats 400000 in
theorem tell_large_t (A X f inside:Int) (y0 y1 y2 y3 y6 y7 pw pu px wr:Bool) (i0:0<=inside) (i1:inside<512) (f0:0<=f) (f1:f<1099511627776) (w:World) :
 Calls Tryd.prog 55 #[.agg #[.int .u64 A,.int .u64 X,.bool y0,.bool y1,.bool y2,.bool y3,.bool true,.bool true,.bool y6,.bool y7,.int .i64 f,.int .i64 2],.agg #[.bool pw,.bool pu,.bool px],.int .i64 inside,.bool wr] w fun e w'=>e=.returned (.agg #[.int .i64 (f+inside),.bool pw,.bool pu,.bool px,.bool y6,.bool true,.bool true])/\Below w.heap.size w w':=by
 have LA:Hid (∀ w:World,Calls Tryd.prog 77 #[.agg #[.int .u64 A,.int .u64 X,.bool y0,.bool y1,.bool y2,.bool y3,.bool true,.bool true,.bool y6,.bool y7,.int .i64 f,.int .i64 2]] w fun e w'=>e=.returned (.bool true)/\w'=w.alloc (.cells #[.int .u64 A,.int .u64 X,.bool y0,.bool y1,.bool y2,.bool y3,.bool true,.bool true,.bool y6,.bool y7,.int .i64 f,.int .i64 2] 131)):=fun w=>by
  have:=large_at A X f 2 y0 y1 y2 y3 true true y6 y7 w
  exact this
 go_enter Tryd.func55,Tryd.ntmps55
 go_wp2_with fail
 refine wp_region_noPanic ?_
 refine wp_region_held_drew (S:=fun u=>u.cell? ⟨w.heap.size,0,none⟩=some (.int .u64 A)/\u.cell? ⟨w.heap.size,1,none⟩=some (.int .u64 X)/\u.cell? ⟨w.heap.size,2,none⟩=some (.bool y0)/\u.cell? ⟨w.heap.size,3,none⟩=some (.bool y1)/\u.cell? ⟨w.heap.size,4,none⟩=some (.bool y2)/\u.cell? ⟨w.heap.size,5,none⟩=some (.bool y3)/\u.cell? ⟨w.heap.size,6,none⟩=some (.bool true)/\u.cell? ⟨w.heap.size,7,none⟩=some (.bool true)/\u.cell? ⟨w.heap.size,8,none⟩=some (.bool y6)/\u.cell? ⟨w.heap.size,9,none⟩=some (.bool y7)/\u.cell? ⟨w.heap.size,10,none⟩=some (.int .i64 f)/\u.cell? ⟨w.heap.size,11,none⟩=some (.int .i64 2)/\u.cell? ⟨w.heap.size+1,0,none⟩=some (.bool pw)/\u.cell? ⟨w.heap.size+1,1,none⟩=some (.bool pu)/\u.cell? ⟨w.heap.size+1,2,none⟩=some (.bool px)) (by kernel_rfl) ?_ (fun hHeld=> ?_)
 . (try dsimp only);((go_split_ands;(repeat' apply And.intro) <;> first | (with_reducible assumption) | (simp [*];done) | (simp (disch:=(simp;try omega)) [World.cell?_alloc_lt];done)))
 refine tk0 0 ?_ rfl (Or.inl ⟨by rfl,?_⟩) ?_
 rotate_left
 . intro w hSw;(try dsimp only at hSw);go_simp;(try with_reducible rfl)
 try simp only [Act.put,z1,z2,z3]
 refine tk0 1 ?_ rfl (Or.inl ⟨by rfl,?_⟩) ?_
 rotate_left
 . intro w hSw;(try dsimp only at hSw);go_simp;(try with_reducible rfl)
 try simp only [Act.put,z1,z2,z3]
 refine tk0 2 ?_ rfl (Or.inl ⟨by rfl,?_⟩) ?_
 rotate_left
 . intro w hSw;(try dsimp only at hSw);go_simp;(try with_reducible rfl)
 try simp only [Act.put,z1,z2,z3]
 refine tk0 3 ?_ rfl (Or.inl ⟨by rfl,?_⟩) ?_
 rotate_left
 . intro w hSw;(try dsimp only at hSw);go_simp;(try with_reducible rfl)
 try simp only [Act.put,z1,z2,z3]
 refine tk0 4 ?_ rfl (Or.inl ⟨by rfl,?_⟩) ?_
 rotate_left
 . intro w hSw;(try dsimp only at hSw);go_simp;(try with_reducible rfl)
 try simp only [Act.put,z1,z2,z3]
 refine tk0 5 ?_ rfl (Or.inl ⟨by rfl,?_⟩) ?_
 rotate_left
 . intro w hSw;(try dsimp only at hSw);go_simp;(try with_reducible rfl)
 try simp only [Act.put,z1,z2,z3]
 refine tk0 6 ?_ rfl (Or.inl ⟨by rfl,?_⟩) ?_
 rotate_left
 . intro w hSw;(try dsimp only at hSw);go_simp;(try with_reducible rfl)
 try simp only [Act.put,z1,z2,z3]
 refine tk0 7 ?_ rfl (Or.inl ⟨by rfl,?_⟩) ?_
 rotate_left
 . intro w hSw;(try dsimp only at hSw);go_simp;(try with_reducible rfl)
 try simp only [Act.put,z1,z2,z3]
 refine tk0 9 ?_ rfl (Or.inl ⟨by rfl,?_⟩) ?_
 rotate_left
 . intro w hSw;(try dsimp only at hSw);go_simp;(try with_reducible rfl)
 try simp only [Act.put,z1,z2,z3]
 refine tk0 10 ?_ rfl (Or.inl ⟨by rfl,?_⟩) ?_
 rotate_left
 . intro w hSw;(try dsimp only at hSw);go_simp;(try with_reducible rfl)
 try simp only [Act.put,z1,z2,z3]
 refine tk0 11 ?_ rfl (Or.inl ⟨by rfl,?_⟩) ?_
 rotate_left
 . intro w hSw;(try dsimp only at hSw);go_simp;(try with_reducible rfl)
 try simp only [Act.put,z1,z2,z3]
 refine wpAnyH_ready (rs:=[8,16]) (by kernel_rfl) (by simp) ?_
 refine AllReadyH.cons rfl (fun K hK=> ?_) (AllReadyH.cons rfl (fun K hK=> ?_) AllReadyH.nil)
 . go_simp
   go_wp2_with (go_at_call 77;refine (LA.out _).mono ?_;rintro e w' ⟨rfl,rfl⟩)
   refine hK.out _ _ ?_ (fun hHeld=> ?_)
   . (try dsimp only);((go_split_ands;(repeat' apply And.intro) <;> first | (with_reducible assumption) | (simp [*];done) | (simp (disch:=(simp;try omega)) [World.cell?_alloc_lt];done)))
   clear hK K
   try simp only [Act.put,z1,z2,z3]
   refine tk0 12 ?_ rfl (Or.inl ⟨by rfl,?_⟩) ?_
   rotate_left
   . intro w hSw;(try dsimp only at hSw);go_simp;(try with_reducible rfl)
   try simp only [Act.put,z1,z2,z3]
   refine tk0 13 undef rfl (Or.inr ⟨by rfl,rfl⟩) ?_
   try simp only [Act.put,z1,z2,z3]
   refine tk0 14 ?_ rfl (Or.inl ⟨by rfl,?_⟩) ?_
   rotate_left
   . intro w hSw;(try dsimp only at hSw);go_simp;(try with_reducible rfl)
   try simp only [Act.put,z1,z2,z3]
   refine tk0 15 ?_ rfl (Or.inl ⟨by rfl,?_⟩) ?_
   rotate_left
   . intro w hSw;(try dsimp only at hSw);go_simp;(try with_reducible rfl)
   try simp only [Act.put,z1,z2,z3]
   refine wpAnyH_ready (rs:=[16]) (by kernel_rfl) (by simp) ?_
   refine AllReadyH.cons rfl (fun K hK=> ?_) AllReadyH.nil
   go_simp
   refine hK.out _ _ ?_ (fun hHeld=> ?_)
   . (try dsimp only);((go_split_ands;(repeat' apply And.intro) <;> first | (with_reducible assumption) | (simp [*];done) | (simp (disch:=(simp;try omega)) [World.cell?_alloc_lt];done)))
   clear hK K
   try simp only [Act.put,z1,z2,z3]
   refine wpAnyH_ready (rs:=[17]) (by kernel_rfl) (by simp) ?_
   refine AllReadyH.cons rfl (fun K hK=> ?_) AllReadyH.nil
   go_simp
   refine hK.out _ _ ?_ (fun hHeld=> ?_)
   . (try dsimp only);((go_split_ands;(repeat' apply And.intro) <;> first | (with_reducible assumption) | (simp [*];done) | (simp (disch:=(simp;try omega)) [World.cell?_alloc_lt];done)))
   clear hK K
   try simp only [Act.put,z1,z2,z3]
   refine wpAnyH_done (by kernel_rfl) ?_ _
   refine NoPanic.normal ?_
   go_wp2_with fail
   go_returns
   refine ⟨rfl,?_⟩
   exact (((((((Below.refl _ _).alloc (by simp) _).alloc (by simp;try omega) _).alloc (by simp;try omega) _).alloc (by simp;try omega) _).alloc (by simp;try omega) _)).drew
 . go_simp
   refine hK.out _ _ ?_ (fun hHeld=> ?_)
   . (try dsimp only);((go_split_ands;(repeat' apply And.intro) <;> first | (with_reducible assumption) | (simp [*];done) | (simp (disch:=(simp;try omega)) [World.cell?_alloc_lt];done)))
   clear hK K
   try simp only [Act.put,z1,z2,z3]
   refine wpAnyH_ready (rs:=[8]) (by kernel_rfl) (by simp) ?_
   refine AllReadyH.cons rfl (fun K hK=> ?_) AllReadyH.nil
   go_simp
   go_wp2_with (go_at_call 77;refine (LA.out _).mono ?_;rintro e w' ⟨rfl,rfl⟩)
   refine hK.out _ _ ?_ (fun hHeld=> ?_)
   . (try dsimp only);((go_split_ands;(repeat' apply And.intro) <;> first | (with_reducible assumption) | (simp [*];done) | (simp (disch:=(simp;try omega)) [World.cell?_alloc_lt];done)))
   clear hK K
   try simp only [Act.put,z1,z2,z3]
   refine tk0 12 ?_ rfl (Or.inl ⟨by rfl,?_⟩) ?_
   rotate_left
   . intro w hSw;(try dsimp only at hSw);go_simp;(try with_reducible rfl)
   try simp only [Act.put,z1,z2,z3]
   refine tk0 13 undef rfl (Or.inr ⟨by rfl,rfl⟩) ?_
   try simp only [Act.put,z1,z2,z3]
   refine tk0 14 ?_ rfl (Or.inl ⟨by rfl,?_⟩) ?_
   rotate_left
   . intro w hSw;(try dsimp only at hSw);go_simp;(try with_reducible rfl)
   try simp only [Act.put,z1,z2,z3]
   refine tk0 15 ?_ rfl (Or.inl ⟨by rfl,?_⟩) ?_
   rotate_left
   . intro w hSw;(try dsimp only at hSw);go_simp;(try with_reducible rfl)
   try simp only [Act.put,z1,z2,z3]
   refine wpAnyH_ready (rs:=[17]) (by kernel_rfl) (by simp) ?_
   refine AllReadyH.cons rfl (fun K hK=> ?_) AllReadyH.nil
   go_simp
   refine hK.out _ _ ?_ (fun hHeld=> ?_)
   . (try dsimp only);((go_split_ands;(repeat' apply And.intro) <;> first | (with_reducible assumption) | (simp [*];done) | (simp (disch:=(simp;try omega)) [World.cell?_alloc_lt];done)))
   clear hK K
   try simp only [Act.put,z1,z2,z3]
   refine wpAnyH_done (by kernel_rfl) ?_ _
   refine NoPanic.normal ?_
   go_wp2_with fail
   go_returns
   refine ⟨rfl,?_⟩
   exact (((((((Below.refl _ _).alloc (by simp) _).alloc (by simp;try omega) _).alloc (by simp;try omega) _).alloc (by simp;try omega) _).alloc (by simp;try omega) _)).drew
end Go.Proofs.YtkiclbnbnjbcaaaDoor
