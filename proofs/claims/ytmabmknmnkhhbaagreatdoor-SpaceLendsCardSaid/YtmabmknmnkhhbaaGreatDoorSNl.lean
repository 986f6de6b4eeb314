import Derived.Test.YtmabmknmnkhhbaaGreatDoorSLl
import Derived.Deep.DeepCutAuto
import Derived.Deep.Upon
import Derived.WalkSmall
import Derived.Test.YtmabmknmnkhhbaaGreatDoorKZl
import Derived.Test.YtmabmknmnkhhbaaGreatDoorSKl
import Derived.Sort.BigQuietIn
import Derived.Test.YtmabmknmnkhhbaaGreatDoorSMl
namespace Go.Proofs.YtmabmknmnkhhbaaGreatDoor.Sp
open Go.ChangeShapes Go.WideShapes Go.ChangeAt Go.RowKit Go.Maps
open Go.Proofs.YtmabmknmnkhhbaaGreatDoor.Tt
set_option linter.unusedSimpArgs false
set_option linter.unusedVariables false
set_option maxRecDepth 8000
theorem eqIr (d:Nat) (a b:Int) (W:World):(Op.equalIn (d+1) 3 (.int .i64 a) (.int .i64 b)).run Tryz.prog W=.ok (a==b) W:=run_equalIn_int W d _ .i64 .i64 a b Tryz.underlying3
theorem eqBr (d:Nat) (a b:Bool) (W:World):(Op.equalIn (d+1) 4 (.bool a) (.bool b)).run Tryz.prog W=.ok (a==b) W:=run_equalIn_bool W d _ a b Tryz.underlying4
theorem eqRr (d:Nat) (a b:Int) (W:World):(Op.equalIn (d+2) 23 (.agg #[.int .i64 a,.int .i64 b]) (.agg #[.int .i64 a,.int .i64 b])).run Tryz.prog W=.ok true W:=by
 rw [run_equalIn_struct W (d+1) 23 _ _ (by kernel_rfl) (by kernel_rfl)]
 have p0: ∀ (x y:Value) (W:World),(part 3 #[x,y] 0).run Tryz.prog W=.ok x W:=fun x y W=>by kernel_rfl
 have p1: ∀ (x y:Value) (W:World),(part 3 #[x,y] 1).run Tryz.prog W=.ok y W:=fun x y W=>by kernel_rfl
 simp only [Program.fieldsOf,Tryz.underlying23]
 simp [Op.eqFields,p0,p1,eqIr]
theorem eqPr (d:Nat) (a b c:Bool) (W:World):(Op.equalIn (d+2) 58 (.agg #[.bool a,.bool b,.bool c]) (.agg #[.bool a,.bool b,.bool c])).run Tryz.prog W=.ok true W:=by
 rw [run_equalIn_struct W (d+1) 58 _ _ (by kernel_rfl) (by kernel_rfl)]
 have p0: ∀ (x y z:Value) (W:World),(part 4 #[x,y,z] 0).run Tryz.prog W=.ok x W:=fun x y z W=>by kernel_rfl
 have p1: ∀ (x y z:Value) (W:World),(part 4 #[x,y,z] 1).run Tryz.prog W=.ok y W:=fun x y z W=>by kernel_rfl
 have p2: ∀ (x y z:Value) (W:World),(part 4 #[x,y,z] 2).run Tryz.prog W=.ok z W:=fun x y z W=>by kernel_rfl
 simp only [Program.fieldsOf,Tryz.underlying58]
 simp [Op.eqFields,p0,p1,p2,eqBr]
theorem eqGr (f t:Int) (gw gu gx:Bool) (gk:Int) (W:World):(binOp .eql 135 (.agg #[.int .i64 f,.int .i64 t,.bool gw,.bool gu,.bool gx,.int .i64 gk]) (.agg #[.int .i64 f,.int .i64 t,.bool gw,.bool gu,.bool gx,.int .i64 gk])).run Tryz.prog W=.ok (.bool true) W:=by
 have p0: ∀ (x0 x1 x2 x3 x4 x5:Value) (W:World),(part 23 #[x0,x1,x2,x3,x4,x5] 0).run Tryz.prog W=.ok (.agg #[x0,x1]) W:=fun x0 x1 x2 x3 x4 x5 W=>by kernel_rfl
 have p2: ∀ (x0 x1 x2 x3 x4 x5:Value) (W:World),(part 58 #[x0,x1,x2,x3,x4,x5] 2).run Tryz.prog W=.ok (.agg #[x2,x3,x4]) W:=fun x0 x1 x2 x3 x4 x5 W=>by kernel_rfl
 have p5: ∀ (x0 x1 x2 x3 x4 x5:Value) (W:World),(part 3 #[x0,x1,x2,x3,x4,x5] 5).run Tryz.prog W=.ok x5 W:=fun x0 x1 x2 x3 x4 x5 W=>by kernel_rfl
 have q:(Op.equalIn (9997+3) 135 (.agg #[.int .i64 f,.int .i64 t,.bool gw,.bool gu,.bool gx,.int .i64 gk]) (.agg #[.int .i64 f,.int .i64 t,.bool gw,.bool gu,.bool gx,.int .i64 gk])).run Tryz.prog W=.ok true W:=by
  rw [run_equalIn_struct W (9997+2) 135 _ _ (by kernel_rfl) (by kernel_rfl)]
  simp only [Program.fieldsOf,Tryz.underlying135]
  simp [Op.eqFields,p0,p2,p5,eqIr,eqBr,eqRr,eqPr]
 simp only [binOp,Op.equal,Sem.run_bind]
 rw [show Op.maxDepth=9997+3 from rfl,q];rfl
set_option maxHeartbeats 2000000 in
theorem index_one (f t:Int) (gw gu gx:Bool) (gk:Int) (g c:Nat) (W:World) (h:Re.IsL W 0 (some ⟨g,0,none⟩) [⟨f,t,gw,gu,gx,gk⟩]) :
 Calls Tryz.prog 120 #[.slice (some ⟨g,0,none⟩) 1 c,.agg #[.int .i64 f,.int .i64 t,.bool gw,.bool gu,.bool gx,.int .i64 gk]] W fun e w'=>e=.returned (.int .i64 0)/\Below W.heap.size W w':=by
 have EQ: ∀ w:World,(binOp .eql 135 (.agg #[.int .i64 f,.int .i64 t,.bool gw,.bool gu,.bool gx,.int .i64 gk]) (.agg #[.int .i64 f,.int .i64 t,.bool gw,.bool gu,.bool gx,.int .i64 gk])).run Tryz.prog w=.ok (.bool true) w:=fun w=>eqGr f t gw gu gx gk w
 have bb:Below W.heap.size W (W.alloc (.cells #[.int .i64 f,.int .i64 t,.bool gw,.bool gu,.bool gx,.int .i64 gk] 135)):=Go.Joins.below_alloc1 _ _
 obtain ⟨g',e1,_,lg,cc⟩:=h 0 (by simp)
 cases e1
 have G0:Hid (Below W.heap.size W (W.alloc (.cells #[.int .i64 f,.int .i64 t,.bool gw,.bool gu,.bool gx,.int .i64 gk] 135))/\Blk (W.alloc (.cells #[.int .i64 f,.int .i64 t,.bool gw,.bool gu,.bool gx,.int .i64 gk] 135)) W.heap.size [.int .i64 f,.int .i64 t,.bool gw,.bool gu,.bool gx,.int .i64 gk] 135/\ ∀ j x,(Re.Rg.enc ⟨f,t,gw,gu,gx,gk⟩)[j]? =some x->(W.alloc (.cells #[.int .i64 f,.int .i64 t,.bool gw,.bool gu,.bool gx,.int .i64 gk] 135)).cell? ⟨g,j,none⟩=some x):=⟨bb,Blk.made _ _ _,fun j x hx=>by
  have q:=cc j x hx
  rw [Nat.zero_mul,Nat.zero_add] at q
  rw [bb.cell (p:=⟨g,j,none⟩) lg];exact q⟩
 clear h cc bb lg
 go_enter Tryz.func120,Tryz.ntmps120
 go_upto_region 1 with fail
 generalize (W.alloc (.cells #[.int .i64 f,.int .i64 t,.bool gw,.bool gu,.bool gx,.int .i64 gk] 135))=W0 at G0 |-
 obtain ⟨q,hq⟩: ∃ q,q=W.heap.size:=⟨_,rfl⟩
 have G1:Hid (Below W.heap.size W W0/\Blk W0 q [.int .i64 f,.int .i64 t,.bool gw,.bool gu,.bool gx,.int .i64 gk] 135/\ ∀ j x,(Re.Rg.enc ⟨f,t,gw,gu,gx,gk⟩)[j]? =some x->W0.cell? ⟨g,j,none⟩=some x):=by rw [hq];exact G0.out
 rw [<- hq]
 clear hq G0
 have x0:W0.cell? ⟨q,0,none⟩=some (.int .i64 f):=G1.out.2.1.cell 0
 have y0:W0.cell? ⟨g,0,none⟩=some (.int .i64 f):=G1.out.2.2 0 _ rfl
 have x1:W0.cell? ⟨q,1,none⟩=some (.int .i64 t):=G1.out.2.1.cell 1
 have y1:W0.cell? ⟨g,1,none⟩=some (.int .i64 t):=G1.out.2.2 1 _ rfl
 have x2:W0.cell? ⟨q,2,none⟩=some (.bool gw):=G1.out.2.1.cell 2
 have y2:W0.cell? ⟨g,2,none⟩=some (.bool gw):=G1.out.2.2 2 _ rfl
 have x3:W0.cell? ⟨q,3,none⟩=some (.bool gu):=G1.out.2.1.cell 3
 have y3:W0.cell? ⟨g,3,none⟩=some (.bool gu):=G1.out.2.2 3 _ rfl
 have x4:W0.cell? ⟨q,4,none⟩=some (.bool gx):=G1.out.2.1.cell 4
 have y4:W0.cell? ⟨g,4,none⟩=some (.bool gx):=G1.out.2.2 4 _ rfl
 have x5:W0.cell? ⟨q,5,none⟩=some (.int .i64 gk):=G1.out.2.1.cell 5
 have y5:W0.cell? ⟨g,5,none⟩=some (.int .i64 gk):=G1.out.2.2 5 _ rfl
 have HB:Hid (Below W.heap.size W W0.drew):=below_drew G1.out.1
 clear G1
 go_wp2_with fail
 refine wp_loop_rounds 3 ?_
 rw [rounds_succ]
 go_wp2_with fail
 go_region
 go_wp2_with fail
 go_returns
 exact ⟨rfl,HB.out⟩
theorem infoG: ∃ i,Tryz.prog.info? 135=some i:=⟨_,rfl⟩
theorem app_none (p:Option Addr) (c:Nat) (ty:TypeId) (w:World):(Builtin.append_ #[73,73] ty #[.slice none 0 0,.slice p 0 c]).run Tryz.prog w=.ok (.slice none 0 0) w:=by
 obtain ⟨i,hi⟩:=infoG
 cases p with
 | none => exact run_append_nothing w _ _ _ _ i Tryz.underlying73 hi none 0 0 (Nat.le_refl _) _ (Src.ofNil w Tryz.underlying73 c)
 | some a => exact run_append_nothing w _ _ _ _ i Tryz.underlying73 hi none 0 0 (Nat.le_refl _) _ (Src.ofSlice w Tryz.underlying73 a 0 c [] (by simp) (by simp) (by simp))
set_option maxHeartbeats 1000000 in
theorem grow_none (W:World):Calls Tryz.prog 148 #[.slice none 0 0,.int .i64 0] W fun e w'=>e=.returned (.slice none 0 0)/\w'=W:=by
 go_enter Tryz.func148,Tryz.ntmps148
 go_wp2_with fail
 go_returns
 exact ⟨rfl,rfl⟩
set_option maxHeartbeats 2000000 in
theorem concat_nil (p1 p2 p3:Option Addr) (c1 c2 c3 h:Nat) (W:World) (hb:Blk W h [.slice p1 0 c1,.slice p2 0 c2,.slice p3 0 c3] 73) :
 Calls Tryz.prog 121 #[.slice (some ⟨h,0,none⟩) 3 3] W fun e w'=>e=.returned (.slice none 0 0)/\w'=W:=by
 have z0:W.cell? ⟨h,0,none⟩=some (.slice p1 0 c1):=hb.cell 0
 have z1:W.cell? ⟨h,1,none⟩=some (.slice p2 0 c2):=hb.cell 1
 have z2:W.cell? ⟨h,2,none⟩=some (.slice p3 0 c3):=hb.cell 2
 have GC:Hid (∀ w:World,_):=fun w=>grow_none w
 clear hb
 go_enter Tryz.func121,Tryz.ntmps121
 go_wp2_with fail
 refine wp_loop_rounds 5 ?_
 rw [rounds_succ]
 go_wp2_with fail
 rw [rounds_succ]
 go_wp2_with fail
 rw [rounds_succ]
 go_wp2_with fail
 rw [rounds_succ]
 go_wp2_with fail
 refine Calls.mono (GC.out _) ?_
 rintro e w1 ⟨rfl,hu⟩
 have hu2:=hu.symm
 subst hu2
 clear hu GC
 go_wp2_with fail
 refine wp_loop_rounds 5 ?_
 rw [rounds_succ]
 go_wp2_with (at_builtin;refine Bd.wpList_app rfl _ _ 73 rfl (.slice none 0 0) (.slice p1 0 c1) rfl rfl _ _ (app_none p1 c1 _ _) ?_)
 rw [rounds_succ]
 go_wp2_with (at_builtin;refine Bd.wpList_app rfl _ _ 73 rfl (.slice none 0 0) (.slice p2 0 c2) rfl rfl _ _ (app_none p2 c2 _ _) ?_)
 rw [rounds_succ]
 go_wp2_with (at_builtin;refine Bd.wpList_app rfl _ _ 73 rfl (.slice none 0 0) (.slice p3 0 c3) rfl rfl _ _ (app_none p3 c3 _ _) ?_)
 rw [rounds_succ]
 go_wp2_with fail
 go_returns
 exact ⟨rfl,rfl⟩
end Go.Proofs.YtmabmknmnkhhbaaGreatDoor.Sp
namespace Go.Proofs.YtmabmknmnkhhbaaGreatDoor.Sp
open Go.ChangeShapes Go.WideShapes Go.ChangeAt Go.RowKit Go.Maps
open Go.Proofs.YtmabmknmnkhhbaaGreatDoor.Tt
set_option linter.unusedSimpArgs false
set_option linter.unusedVariables false
set_option maxRecDepth 8000
set_option maxHeartbeats 4000000 in
theorem without_one (f t:Int) (gw gu gx:Bool) (f0:0<=f) (ft:t=f+1) (t1:t<=34359738368) (g c:Nat) (W:World) (h:Re.IsL W 0 (some ⟨g,0,none⟩) [⟨f,t,gw,gu,gx,1⟩]) :
 Calls Tryz.prog 71 #[.slice (some ⟨g,0,none⟩) 1 (c+1),.agg #[.int .i64 f,.int .i64 t,.bool gw,.bool gu,.bool gx,.int .i64 1],.int .i64 f] W fun e w'=>e=.returned (.slice none 0 0)/\Below W.heap.size W w':=by
 obtain ⟨gk,hgk⟩: ∃ gk:Int,gk=1:=⟨_,rfl⟩
 rw [<- hgk] at h |-
 have IC:Hid (∀ w:World,Below W.heap.size W w->_):=fun w hb=>index_one f t gw gu gx gk g (c+1) w (h.below hb)
 have SC:Hid (∀ w:World,Calls Tryz.prog 51 #[.int .i64 f] w fun e w'=>e=.returned (.agg #[.int .i64 f,.int .i64 t])/\Below w.heap.size w w'):=fun w=>by
  have q:=single_any f f0 (by omega) w
  rw [<- ft] at q;exact q
 have CC:Hid (∀ (w:World) (b:Nat),Blk w b [.int .i64 f,.int .i64 t,.bool gw,.bool gu,.bool gx,.int .i64 gk] 135->Below W.heap.size W w->Calls Tryz.prog 58 #[.slice (some ⟨b,0,none⟩) 1 1,.agg #[.int .i64 f,.int .i64 t]] w fun e w'=> ∃ pf cf,e=.returned (.tuple #[.slice pf 0 cf,.int .i64 0])/\Below w.heap.size w w'):=fun w b hb _=>by
  obtain ⟨k1,k2⟩:=cut_whole1 f t gw gu gx f0 (by omega) t1 (by omega)
  rw [hgk] at hb
  refine (cut_new (some ⟨b,0,none⟩) 1 [⟨f,t,gw,gu,gx,1⟩] (by simp) f t k1 [] k2 (by simp) w (isl_one hb)).mono ?_
  rintro e w' ⟨p',c',q1,q2,_⟩
  exact ⟨p',c',q1,q2⟩
 have TC:Hid (∀ (w:World) (h:Nat) (p1 p2 p3:Option Addr) (c1 c2 c3:Nat),Blk w h [.slice p1 0 c1,.slice p2 0 c2,.slice p3 0 c3] 73->_):=fun w h p1 p2 p3 c1 c2 c3 hb=>concat_nil p1 p2 p3 c1 c2 c3 h w hb
 have G0:Hid (Below W.heap.size W (W.alloc (.cells #[.int .i64 f,.int .i64 t,.bool gw,.bool gu,.bool gx,.int .i64 gk] 135))/\Blk (W.alloc (.cells #[.int .i64 f,.int .i64 t,.bool gw,.bool gu,.bool gx,.int .i64 gk] 135)) W.heap.size [.int .i64 f,.int .i64 t,.bool gw,.bool gu,.bool gx,.int .i64 gk] 135):=⟨Go.Joins.below_alloc1 _ _,Blk.made _ _ _⟩
 clear h hgk f0 ft t1
 go_enter Tryz.func71,Tryz.ntmps71
 go_upto_region 1 with fail
 generalize (W.alloc (.cells #[.int .i64 f,.int .i64 t,.bool gw,.bool gu,.bool gx,.int .i64 gk] 135))=W0 at G0 |-
 obtain ⟨q,hq⟩: ∃ q,q=W.heap.size:=⟨_,rfl⟩
 have G1:Hid (Below W.heap.size W W0/\Blk W0 q [.int .i64 f,.int .i64 t,.bool gw,.bool gu,.bool gx,.int .i64 gk] 135):=by rw [hq];exact G0.out
 rw [<- hq]
 clear hq G0
 have x0:W0.cell? ⟨q,0,none⟩=some (.int .i64 f):=G1.out.2.cell 0
 have x1:W0.cell? ⟨q,1,none⟩=some (.int .i64 t):=G1.out.2.cell 1
 have x2:W0.cell? ⟨q,2,none⟩=some (.bool gw):=G1.out.2.cell 2
 have x3:W0.cell? ⟨q,3,none⟩=some (.bool gu):=G1.out.2.cell 3
 have x4:W0.cell? ⟨q,4,none⟩=some (.bool gx):=G1.out.2.cell 4
 have x5:W0.cell? ⟨q,5,none⟩=some (.int .i64 gk):=G1.out.2.cell 5
 go_wp2_with fail
 refine Calls.mono (IC.out _ G1.out.1) ?_
 rintro e w2 ⟨rfl,hb2⟩
 have G2:Hid (Below W.heap.size W w2/\Blk w2 q [.int .i64 f,.int .i64 t,.bool gw,.bool gu,.bool gx,.int .i64 gk] 135):=⟨below_then G1.out.1 hb2,G1.out.2.below hb2⟩
 clear hb2 G1 IC x0 x1 x2 x3 x4 x5
 go_upto_region 2 with fail
 go_cut [8,9] (fun v _ V=> ∃ pf cf,v=.slice pf 0 cf/\Hid (Below W.heap.size W V/\Blk V q [.int .i64 f,.int .i64 t,.bool gw,.bool gu,.bool gx,.int .i64 gk] 135))
 case first =>
  have BS:Hid (Blk w2 q [.int .i64 f,.int .i64 t,.bool gw,.bool gu,.bool gx,.int .i64 gk] 135):=G2.out.2
  refine wp_region_noPanic ?_
  refine wp_region_held_drew (S:=fun cw=>Blk cw q [.int .i64 f,.int .i64 t,.bool gw,.bool gu,.bool gx,.int .i64 gk] 135) (by kernel_rfl) ?_ (fun hHeld=> ?_)
  . exact BS.out
  have KU:Hid (Below W.heap.size W w2.drew):=below_drew G2.out.1
  clear BS
  generalize w2.drew=U at hHeld KU |-
  refine tk 0 14 (.agg #[.int .i64 f,.int .i64 t,.bool gw,.bool gu,.bool gx,.int .i64 gk]) rfl (Or.inl ⟨by rfl,?_⟩) ?_
  . intro w hSw;(try dsimp only at hSw);have r0:=Blk.cell hSw 0;have r1:=Blk.cell hSw 1;have r2:=Blk.cell hSw 2;have r3:=Blk.cell hSw 3;have r4:=Blk.cell hSw 4;have r5:=Blk.cell hSw 5;(try go_simp);(try simp [*])
  try simp only [Act.put,z1,z2,z3]
  refine tk 2 16 ?_ rfl (Or.inl ⟨by rfl,?_⟩) ?_
  rotate_left
  . intro w hSw;(try dsimp only at hSw);go_simp;(try with_reducible rfl)
  try simp only [Act.put,z1,z2,z3]
  refine wpAnyH_ready (rs:=[1,3]) (by kernel_rfl) (by simp) ?_
  refine AllReadyH.cons (o:=⟨some 15,_,_,_,_,none⟩) rfl (fun K hK=> ?_) (AllReadyH.cons (o:=⟨some 17,_,_,_,_,none⟩) rfl (fun K hK=> ?_) AllReadyH.nil)
  . go_simp
    have gb:Below U.heap.size U (U.alloc (.cells #[.int .i64 f,.int .i64 t,.bool gw,.bool gu,.bool gx,.int .i64 gk] 135)):=Go.Joins.below_alloc1 _ _
    have BK:Hid (Blk (U.alloc (.cells #[.int .i64 f,.int .i64 t,.bool gw,.bool gu,.bool gx,.int .i64 gk] 135)) U.heap.size [.int .i64 f,.int .i64 t,.bool gw,.bool gu,.bool gx,.int .i64 gk] 135/\Below W.heap.size W (U.alloc (.cells #[.int .i64 f,.int .i64 t,.bool gw,.bool gu,.bool gx,.int .i64 gk] 135))):=⟨Blk.made _ _ _,below_then KU.out gb⟩
    refine hK.out _ _ (hHeld.below gb) (fun hHeld2=> ?_)
    clear hK K hHeld gb KU
    have hHeld:=hHeld2
    clear hHeld2
    try simp only [Act.put,z1,z2,z3]
    generalize U.alloc (.cells #[.int .i64 f,.int .i64 t,.bool gw,.bool gu,.bool gx,.int .i64 gk] 135)=V at hHeld BK |-
    generalize U.heap.size=lb at BK |-
    refine wpAnyH_ready (rs:=[3]) (by kernel_rfl) (by simp) ?_
    refine AllReadyH.cons (o:=⟨some 17,_,_,_,_,none⟩) rfl (fun K hK=> ?_) AllReadyH.nil
    go_simp
    go_wp2_with (go_at_call 51;refine Calls.mono (SC.out _) ?_;rintro e u3 ⟨rfl,hb3⟩)
    have BK3:Hid (Blk u3 lb [.int .i64 f,.int .i64 t,.bool gw,.bool gu,.bool gx,.int .i64 gk] 135/\Below W.heap.size W u3):=⟨BK.out.1.below hb3,below_then BK.out.2 hb3⟩
    clear BK
    have BK:=BK3
    clear BK3
    refine hK.out _ _ (hHeld.below hb3) (fun hHeld2=> ?_)
    clear hK K hHeld hb3
    have hHeld:=hHeld2
    clear hHeld2
    try simp only [Act.put,z1,z2,z3]
    refine wpAnyH_ready (rs:=[4]) (by kernel_rfl) (by simp) ?_
    refine AllReadyH.cons (o:=⟨some 18,_,_,_,_,none⟩) rfl (fun K hK=> ?_) AllReadyH.nil
    go_simp
    go_wp2_with (go_at_call 58;refine Calls.mono (CC.out _ lb BK.out.1 BK.out.2) ?_;rintro e u4 ⟨pf,cf,rfl,hb4⟩)
    have KE:Hid (Below W.heap.size W u4/\Blk u4 q [.int .i64 f,.int .i64 t,.bool gw,.bool gu,.bool gx,.int .i64 gk] 135):=⟨below_then BK.out.2 hb4,hHeld.below hb4⟩
    refine hK.out _ _ (hHeld.below hb4) (fun hHeld2=> ?_)
    clear hK K hHeld hb4 BK
    have hHeld:=hHeld2
    clear hHeld2
    try simp only [Act.put,z1,z2,z3]
    refine tk 5 13 ?_ rfl (Or.inl ⟨by rfl,?_⟩) ?_
    rotate_left
    . intro w hSw;(try dsimp only at hSw);go_simp;(try with_reducible rfl)
    try simp only [Act.put,z1,z2,z3]
    refine tk 6 19 ?_ rfl (Or.inl ⟨by rfl,?_⟩) ?_
    rotate_left
    . intro w hSw;(try dsimp only at hSw);go_simp;(try with_reducible rfl)
    try simp only [Act.put,z1,z2,z3]
    refine tk 7 20 ?_ rfl (Or.inl ⟨by rfl,?_⟩) ?_
    rotate_left
    . intro w hSw;(try dsimp only at hSw);go_simp;(try with_reducible rfl)
    try simp only [Act.put,z1,z2,z3]
    refine tk 8 8 ?_ rfl (Or.inl ⟨by rfl,?_⟩) ?_
    rotate_left
    . intro w hSw;(try dsimp only at hSw);go_simp;(try with_reducible rfl)
    try simp only [Act.put,z1,z2,z3]
    refine tk 9 9 ?_ rfl (Or.inl ⟨by rfl,?_⟩) ?_
    rotate_left
    . intro w hSw;(try dsimp only at hSw);go_simp;(try with_reducible rfl)
    try simp only [Act.put,z1,z2,z3]
    clear hHeld
    refine wpAnyH_done (by kernel_rfl) ?_ _
    refine NoPanic.normal ?_
    go_wp2_with fail
    go_meet
    exact ⟨pf,cf,rfl,KE⟩
  . go_simp
    go_wp2_with (go_at_call 51;refine Calls.mono (SC.out _) ?_;rintro e u3 ⟨rfl,hb3⟩)
    have KU3:Hid (Below W.heap.size W u3):=below_then KU.out hb3
    clear KU
    have KU:=KU3
    clear KU3
    refine hK.out _ _ (hHeld.below hb3) (fun hHeld2=> ?_)
    clear hK K hHeld hb3
    have hHeld:=hHeld2
    clear hHeld2
    try simp only [Act.put,z1,z2,z3]
    refine wpAnyH_ready (rs:=[1]) (by kernel_rfl) (by simp) ?_
    refine AllReadyH.cons (o:=⟨some 15,_,_,_,_,none⟩) rfl (fun K hK=> ?_) AllReadyH.nil
    go_simp
    have gb:Below u3.heap.size u3 (u3.alloc (.cells #[.int .i64 f,.int .i64 t,.bool gw,.bool gu,.bool gx,.int .i64 gk] 135)):=Go.Joins.below_alloc1 _ _
    have BK:Hid (Blk (u3.alloc (.cells #[.int .i64 f,.int .i64 t,.bool gw,.bool gu,.bool gx,.int .i64 gk] 135)) u3.heap.size [.int .i64 f,.int .i64 t,.bool gw,.bool gu,.bool gx,.int .i64 gk] 135/\Below W.heap.size W (u3.alloc (.cells #[.int .i64 f,.int .i64 t,.bool gw,.bool gu,.bool gx,.int .i64 gk] 135))):=⟨Blk.made _ _ _,below_then KU.out gb⟩
    refine hK.out _ _ (hHeld.below gb) (fun hHeld2=> ?_)
    clear hK K hHeld gb KU
    have hHeld:=hHeld2
    clear hHeld2
    try simp only [Act.put,z1,z2,z3]
    generalize u3.alloc (.cells #[.int .i64 f,.int .i64 t,.bool gw,.bool gu,.bool gx,.int .i64 gk] 135)=V at hHeld BK |-
    generalize u3.heap.size=lb at BK |-
    refine wpAnyH_ready (rs:=[4]) (by kernel_rfl) (by simp) ?_
    refine AllReadyH.cons (o:=⟨some 18,_,_,_,_,none⟩) rfl (fun K hK=> ?_) AllReadyH.nil
    go_simp
    go_wp2_with (go_at_call 58;refine Calls.mono (CC.out _ lb BK.out.1 BK.out.2) ?_;rintro e u4 ⟨pf,cf,rfl,hb4⟩)
    have KE:Hid (Below W.heap.size W u4/\Blk u4 q [.int .i64 f,.int .i64 t,.bool gw,.bool gu,.bool gx,.int .i64 gk] 135):=⟨below_then BK.out.2 hb4,hHeld.below hb4⟩
    refine hK.out _ _ (hHeld.below hb4) (fun hHeld2=> ?_)
    clear hK K hHeld hb4 BK
    have hHeld:=hHeld2
    clear hHeld2
    try simp only [Act.put,z1,z2,z3]
    refine tk 5 13 ?_ rfl (Or.inl ⟨by rfl,?_⟩) ?_
    rotate_left
    . intro w hSw;(try dsimp only at hSw);go_simp;(try with_reducible rfl)
    try simp only [Act.put,z1,z2,z3]
    refine tk 6 19 ?_ rfl (Or.inl ⟨by rfl,?_⟩) ?_
    rotate_left
    . intro w hSw;(try dsimp only at hSw);go_simp;(try with_reducible rfl)
    try simp only [Act.put,z1,z2,z3]
    refine tk 7 20 ?_ rfl (Or.inl ⟨by rfl,?_⟩) ?_
    rotate_left
    . intro w hSw;(try dsimp only at hSw);go_simp;(try with_reducible rfl)
    try simp only [Act.put,z1,z2,z3]
    refine tk 8 8 ?_ rfl (Or.inl ⟨by rfl,?_⟩) ?_
    rotate_left
    . intro w hSw;(try dsimp only at hSw);go_simp;(try with_reducible rfl)
    try simp only [Act.put,z1,z2,z3]
    refine tk 9 9 ?_ rfl (Or.inl ⟨by rfl,?_⟩) ?_
    rotate_left
    . intro w hSw;(try dsimp only at hSw);go_simp;(try with_reducible rfl)
    try simp only [Act.put,z1,z2,z3]
    clear hHeld
    refine wpAnyH_done (by kernel_rfl) ?_ _
    refine NoPanic.normal ?_
    go_wp2_with fail
    go_meet
    exact ⟨pf,cf,rfl,KE⟩
 case rest =>
  obtain ⟨pf,cf,rfl,KE⟩:=hcut
  go_upto_region 3 with fail
  have BS:Hid (Blk wc q [.int .i64 f,.int .i64 t,.bool gw,.bool gu,.bool gx,.int .i64 gk] 135):=KE.out.2
  obtain ⟨p3,hp3⟩: ∃ p3:Option Addr,p3=if c=0 then some ⟨g,0,none⟩ else some ⟨g,6,none⟩:=⟨_,rfl⟩
  have HP3:Hid (p3=if c=0 then some ⟨g,0,none⟩ else some ⟨g,6,none⟩):=hp3
  clear hp3
  refine wp_region_noPanic ?_
  refine wp_region_held_drew (S:=fun cw=>Blk cw q [.int .i64 f,.int .i64 t,.bool gw,.bool gu,.bool gx,.int .i64 gk] 135) (by kernel_rfl) ?_ (fun hHeld=> ?_)
  . exact BS.out
  have KU:Hid (Below W.heap.size W wc.drew):=below_drew KE.out.1
  clear BS
  generalize wc.drew=U at hHeld KU |-
  refine tk 0 21 ?_ rfl (Or.inl ⟨by rfl,?_⟩) ?_
  rotate_left
  . intro w hSw;(try dsimp only at hSw);go_simp;(try with_reducible rfl)
  try simp only [Act.put,z1,z2,z3]
  refine tk 1 22 ?_ rfl (Or.inl ⟨by rfl,?_⟩) ?_
  rotate_left
  . intro w hSw;(try dsimp only at hSw);go_simp;(try with_reducible rfl)
  try simp only [Act.put,z1,z2,z3]
  refine tk 2 23 ((.slice (some ⟨g,0,none⟩) 0 (c+1))) rfl (Or.inl ⟨by rfl,?_⟩) ?_
  . intro w hSw;(try dsimp only at hSw);have k1: ¬ ((c:Int)+1<0):=(by omega);(try go_simp);(try simp [*])
  try simp only [Act.put,z1,z2,z3]
  refine tk 3 24 ?_ rfl (Or.inl ⟨by rfl,?_⟩) ?_
  rotate_left
  . intro w hSw;(try dsimp only at hSw);go_simp;(try with_reducible rfl)
  try simp only [Act.put,z1,z2,z3]
  refine tk 4 25 ?_ rfl (Or.inl ⟨by rfl,?_⟩) ?_
  rotate_left
  . intro w hSw;(try dsimp only at hSw);go_simp;(try with_reducible rfl)
  try simp only [Act.put,z1,z2,z3]
  refine tk 5 26 ?_ rfl (Or.inl ⟨by rfl,?_⟩) ?_
  rotate_left
  . intro w hSw;(try dsimp only at hSw);go_simp;(try with_reducible rfl)
  try simp only [Act.put,z1,z2,z3]
  refine tk 6 27 (.int .i64 1) rfl (Or.inl ⟨by rfl,?_⟩) ?_
  . intro w hSw;(try dsimp only at hSw);go_simp;(try simp);(try (simp only [IntKind.wrap_i64];omega))
  try simp only [Act.put,z1,z2,z3]
  refine tk 7 28 (.slice p3 0 c) rfl (Or.inl ⟨by rfl,?_⟩) ?_
  . intro w hSw;(try dsimp only at hSw);have k1: ¬ ((c:Int)+1<1):=(by omega);rw [HP3.out];by_cases k0:c=0 <;> (try simp only [k0,if_true,if_false,reduceIte]) <;> (try go_simp) <;> (try simp [*]);(try go_simp);(try simp [*])
  try simp only [Act.put,z1,z2,z3]
  refine wpAnyH_ready (rs:=[8]) (by kernel_rfl) (by simp) ?_
  refine AllReadyH.cons (o:=⟨some 29,_,_,_,_,none⟩) rfl (fun K hK=> ?_) AllReadyH.nil
  go_simp
  have gb:Below U.heap.size U (U.alloc (.cells #[.slice (some ⟨g,0,none⟩) 0 (c+1),.slice pf 0 cf,.slice p3 0 c] 73)):=Go.Joins.below_alloc1 _ _
  have BK:Hid (Blk (U.alloc (.cells #[.slice (some ⟨g,0,none⟩) 0 (c+1),.slice pf 0 cf,.slice p3 0 c] 73)) U.heap.size [.slice (some ⟨g,0,none⟩) 0 (c+1),.slice pf 0 cf,.slice p3 0 c] 73/\Below W.heap.size W (U.alloc (.cells #[.slice (some ⟨g,0,none⟩) 0 (c+1),.slice pf 0 cf,.slice p3 0 c] 73))):=⟨Blk.made _ _ _,below_then KU.out gb⟩
  refine hK.out _ _ (hHeld.below gb) (fun hHeld2=> ?_)
  clear hK K hHeld gb KU
  have hHeld:=hHeld2
  clear hHeld2
  try simp only [Act.put,z1,z2,z3]
  generalize (U.alloc (.cells #[.slice (some ⟨g,0,none⟩) 0 (c+1),.slice pf 0 cf,.slice p3 0 c] 73))=V at hHeld BK |-
  generalize U.heap.size=lb at BK |-
  refine wpAnyH_ready (rs:=[9]) (by kernel_rfl) (by simp) ?_
  refine AllReadyH.cons (o:=⟨some 30,_,_,_,_,none⟩) rfl (fun K hK=> ?_) AllReadyH.nil
  go_simp
  go_wp2_with (go_at_call 121;refine Calls.mono (TC.out _ lb _ _ _ _ _ _ BK.out.1) ?_;rintro e u5 ⟨rfl,hu5⟩)
  have KE5:Hid (Below W.heap.size W V):=BK.out.2
  refine hK.out _ _ hHeld (fun hHeld2=> ?_)
  clear hK K hHeld hu5 BK
  have hHeld:=hHeld2
  clear hHeld2
  try simp only [Act.put,z1,z2,z3]
  refine tk 10 6 ?_ rfl (Or.inl ⟨by rfl,?_⟩) ?_
  rotate_left
  . intro w hSw;(try dsimp only at hSw);go_simp;(try with_reducible rfl)
  try simp only [Act.put,z1,z2,z3]
  clear hHeld
  refine wpAnyH_done (by kernel_rfl) ?_ _
  refine NoPanic.normal ?_
  go_wp2_with fail
  go_returns
  exact ⟨rfl,KE5.out⟩
end Go.Proofs.YtmabmknmnkhhbaaGreatDoor.Sp
namespace Go.Proofs.YtmabmknmnkhhbaaGreatDoor.Sp
open Go.ChangeShapes Go.WideShapes Go.ChangeAt Go.RowKit Go.Maps
open Go.Proofs.YtmabmknmnkhhbaaGreatDoor.Tt
set_option linter.unusedSimpArgs false
set_option linter.unusedVariables false
set_option maxRecDepth 8000
set_option maxHeartbeats 2000000 in
theorem back_none {Y:Nat->Prop} {O:Nat->Nat} {n:Nat} {W:World} {M:Mb} {m:Pm} {s:Ps} {T:Nat->Tl.Ln} {S:Pc.Tg} {a b:Sr} {B:List Sr} (h:Mc Y O n W M m s T S (a::b::B)) (ab:b.id≠a.id) (wa:(Lit.int .i64 a.id).wf=true) (wb:(Lit.int .i64 b.id).wf=true) (p:Nat) (t:Int) (hp:p<34359738368) (z:Int) (hz:a.lt p=some z) (z0:z=0) :
 Calls Tryz.prog 22 #[pp M.mb,.int .i64 a.id,.int .i64 p,.int .i64 b.id,.int .i64 t] W fun e w'=>e=.returned (.int .i64 5)/\Below W.heap.size W w':=by
 have ma:a∈a::b::B:=by simp
 have l1:(Instr.lookup 41 (.map (some M.sm)) (.int .i64 a.id) false).run Tryz.prog W.drew=.ok (.pointer (some ⟨a.sb,0,none⟩)) W.drew:=by
  have q:=(h.map.block (w':=W.drew) rfl).look wa
  rw [spF_head] at q;exact q
 have l2:(Instr.lookup 41 (.map (some M.sm)) (.int .i64 b.id) false).run Tryz.prog W.drew=.ok (.pointer (some ⟨b.sb,0,none⟩)) W.drew:=by
  have q:=(h.map.block (w':=W.drew) rfl).look wb
  rw [spF_two _ ab] at q;exact q
 have c6:W.cell? ⟨M.mb,6,none⟩=some (.map (some M.sm)):=h.mac.cell 6
 have c3:W.cell? ⟨a.sb,3,none⟩=some (.map (some a.lb)):=(h.sp a ma).blk.cell 3
 have l3:(Instr.lookup 110 (.map (some a.lb)) (.int .i64 p) false).run Tryz.prog W.drew=.ok (.int .i64 z) W.drew:=by
  obtain ⟨cm,hcm⟩:=(h.sp a ma).map
  have q:=look1 (hcm.block (w':=W.drew) rfl) (k:=(p:Int)) (wf64 (by omega) (by omega))
  rw [hz] at q;exact q
 rw [z0] at l3
 have HB:Hid (Below W.heap.size W W.drew):=below_drew (Below.refl _ _)
 clear h ab wa wb hp hz z0
 go_enter Tryz.func22,Tryz.ntmps22
 go_upto_region 1 with fail
 go_region
 go_wp2_with fail
 go_returns
 exact ⟨rfl,HB.out⟩
def Backed (Y:Nat->Prop) (n:Nat) (W w':World) (M:Mb) (m:Pm) (s:Ps) (T:Nat->Tl.Ln) (S:Pc.Tg) (a b:Sr) (B:List Sr) (p t:Nat) (z:Int) (ro u:Int) (fr:Nat):Prop :=
 ∃ (O':Nat->Nat) (s':Ps) (tab':Nat->Nat->Option Nat),Mc Y O' n w' M m s' T S ({ a with ln:=a.ln+1,lt:=Pc.setF a.lt p (some (z-1)) }::{ b with tab:=tab',lf:=(lfSet b.lf t none),rp:=none,rc:=0,L:=[] }::B)/\Nums m s' b.k (ro+(tabsN (pgs b.lf):Int)-tabsN (pgs (lfSet b.lf t none))) (u-(tabsN (pgs b.lf):Int)+tabsN (pgs (lfSet b.lf t none))) (fr+tabsN (pgs b.lf)-tabsN (pgs (lfSet b.lf t none)))/\s'.q<=s.q+10/\Kx Y W w'
set_option maxHeartbeats 4000000 in
theorem back_ok {Y:Nat->Prop} {O:Nat->Nat} {n:Nat} {W:World} {M:Mb} {m:Pm} {s:Ps} {T:Nat->Tl.Ln} {S:Pc.Tg} {a b:Sr} {B:List Sr} (h:Mc Y O n W M m s T S (a::b::B)) (ab:b.id≠a.id) (wa:(Lit.int .i64 a.id).wf=true) (wb:(Lit.int .i64 b.id).wf=true) (p t:Nat) (hp:p<34359738368) (ht:t<34359738368) (z:Int) (hz:a.lt p=some z) (z0:0<z) (z1:z<1000000) (gw gu gx:Bool) (hL:b.L=[⟨(t:Nat),(t:Nat)+1,gw,gu,gx,1⟩]) (v v2:Lf) (hv:a.lf p=some v) (hv2:b.lf t=some v2) (vv:v2.f=v.f) (hT:S.T b.id=none)
 {ro u:Int} {fr:Nat} (hN:Nums m s b.k ro u fr) (hu:(tabsN (pgs b.lf):Int)<=u) (hq:s.q<3000000000000000000) (hln:a.ln<1000000) :
 Calls Tryz.prog 22 #[pp M.mb,.int .i64 a.id,.int .i64 p,.int .i64 b.id,.int .i64 t] W fun e w'=>e=.returned (.int .i64 0)/\Backed Y n W w' M m s T S a b B p t z ro u fr:=by
 have ma:a∈a::b::B:=by simp
 have mb:b∈a::b::B:=by simp
 obtain ⟨tt,htt⟩: ∃ tt:Int,tt=(t:Nat)+1:=⟨_,rfl⟩
 rw [<- htt] at hL
 have l1:(Instr.lookup 41 (.map (some M.sm)) (.int .i64 a.id) false).run Tryz.prog W.drew=.ok (.pointer (some ⟨a.sb,0,none⟩)) W.drew:=by
  have q:=(h.map.block (w':=W.drew) rfl).look wa
  rw [spF_head] at q;exact q
 have l2:(Instr.lookup 41 (.map (some M.sm)) (.int .i64 b.id) false).run Tryz.prog W.drew=.ok (.pointer (some ⟨b.sb,0,none⟩)) W.drew:=by
  have q:=(h.map.block (w':=W.drew) rfl).look wb
  rw [spF_two _ ab] at q;exact q
 have c6:W.cell? ⟨M.mb,6,none⟩=some (.map (some M.sm)):=h.mac.cell 6
 have c3:W.cell? ⟨a.sb,3,none⟩=some (.map (some a.lb)):=(h.sp a ma).blk.cell 3
 have l3:(Instr.lookup 110 (.map (some a.lb)) (.int .i64 p) false).run Tryz.prog W.drew=.ok (.int .i64 z) W.drew:=by
  obtain ⟨cm,hcm⟩:=(h.sp a ma).map
  have q:=look1 (hcm.block (w':=W.drew) rfl) (k:=(p:Int)) (wf64 (by omega) (by omega))
  rw [hz] at q;exact q
 have dz:decide (z=0)=false:=by simp;omega
 have dz2:(z==0)=false:=by simp;omega
 obtain ⟨lg,elg,llg⟩: ∃ lg,b.rp=some ⟨lg,0,none⟩/\lg<W.heap.size:=by
  obtain ⟨g,e1,_,l2,_⟩:=(h.sp b mb).lis 0 (by rw [hL];simp)
  exact ⟨g,e1,l2⟩
 have FC:Hid (∀ w:World,Below W.heap.size W w->Calls Tryz.prog 54 #[.slice b.rp b.L.length b.rc,.int .i64 t] w fun e w'=>e=.returned (.tuple #[.agg #[.int .i64 t,.int .i64 tt,.bool gw,.bool gu,.bool gx,.int .i64 1],.bool true])/\Below w.heap.size w w'):=fun w hb=>by
  have q:=Re.find_any 0 b.rp b.rc b.L (by have:=(h.sp b mb).few;omega) t w ((h.sp b mb).lis.below hb)
  have e:Re.findR b.L t=(⟨(t:Nat),tt,gw,gu,gx,1⟩,true):=by
   rw [hL];unfold Re.findR;rw [if_pos (by show ((t:Nat):Int)<=(t:Int)/\(t:Int)<tt;omega)]
  rw [e] at q;exact q
 have AC:Hid (∀ w:World,Below W.heap.size W w->Calls Tryz.prog 68 #[pp M.mb,pp a.sb,.int .i64 p,pp b.sb,.int .i64 t] w fun e w'=>e=.returned (.bool true)/\Below w.heap.size w w'):=fun w hb=>by
  have q:=alike_any (h.below hb) p t v.f v2.f v.w v.u v.x true v2.w v2.u v2.x true (by rw [hv];rfl) (by rw [hv2];rfl)
  rw [vv,beq_self_eq_true] at q;exact q
 have PC:Hid (∀ w:World,Blk w M.mb [pp m.rb,pp m.b,pp m.tb,pp M.tl,pp M.tg,.int .i64 M.kf,.map (some M.sm)] 43->_):=fun w hb=>purse_any M.mb m.rb m.b m.tb b.k _ _ _ _ w hb
 have FG:Hid (∀ (Y':Nat->Prop) (w:World) (s':Ps) (x:Sr) (A:List Sr),Mc Y' O n w M m s' T S (x::A)->Calls Tryz.prog 70 #[pp M.mb,.int .i64 b.id,.int .i64 t] w fun e w'=>e=.returned (.tuple #[])/\Below w.heap.size w w'):=fun Y' w s' x A hx=>forget_none hx b.id t wb hT
 have WC0:Hid (∀ w:World,Re.IsL w 0 b.rp b.L->Calls Tryz.prog 71 #[.slice (some ⟨lg,0,none⟩) 1 b.rc,.agg #[.int .i64 t,.int .i64 tt,.bool gw,.bool gu,.bool gx,.int .i64 1],.int .i64 t] w fun e w'=>e=.returned (.slice none 0 0)/\Below w.heap.size w w'):=fun w hw=>by
  have cp:=(h.sp b mb).cap
  rw [hL] at cp hw
  rw [elg] at hw
  obtain ⟨c1,e1⟩: ∃ c1,b.rc=c1+1:=⟨b.rc-1,by have:1<=b.rc:=cp;omega⟩
  rw [e1]
  exact without_one (t:Nat) tt gw gu gx (by omega) htt (by omega) lg c1 w hw
 have HM:Hid (Mc Y O n W M m s T S (a::b::B)):=h
 have HH:Hid (p<34359738368/\a.lt p=some z/\(0<z/\z<1000000)/\b.lf t=some v2/\Nums m s b.k ro u fr/\(tabsN (pgs b.lf):Int)<=u/\s.q<3000000000000000000/\a.ln<1000000/\b.L.length=1/\b.rp=some ⟨lg,0,none⟩):=⟨hp,hz,⟨z0,z1⟩,hv2,hN,hu,hq,hln,by rw [hL];rfl,elg⟩
 have HB:Hid (Below W.heap.size W W.drew):=below_drew (Below.refl _ _)
 have c2:W.cell? ⟨b.sb,2,none⟩=some (.slice b.rp b.L.length b.rc):=(h.sp b mb).blk.cell 2
 clear h ab wa wb hp ht hz z0 z1 hL hv hv2 vv hT hN hu hq hln htt elg llg
 go_enter Tryz.func22,Tryz.ntmps22
 go_upto_region 1 with fail
 go_region
 go_wp2_with fail
 refine Calls.mono (FC.out _ HB.out) ?_
 rintro e w2 ⟨rfl,hb2⟩
 have G2:Hid (Below W.heap.size W (w2.alloc (.cells #[.int .i64 t,.int .i64 tt,.bool gw,.bool gu,.bool gx,.int .i64 1] 135))/\Blk (w2.alloc (.cells #[.int .i64 t,.int .i64 tt,.bool gw,.bool gu,.bool gx,.int .i64 1] 135)) w2.heap.size [.int .i64 t,.int .i64 tt,.bool gw,.bool gu,.bool gx,.int .i64 1] 135/\W.heap.size<=w2.heap.size):=⟨below_then (below_then HB.out hb2) (Go.Joins.below_alloc1 _ _),Blk.made _ _ _,(below_then HB.out hb2).size⟩
 clear hb2 FC l1 l2 l3 c6 c3 c2 HB
 go_upto_region 5 with fail
 generalize (w2.alloc (.cells #[.int .i64 t,.int .i64 tt,.bool gw,.bool gu,.bool gx,.int .i64 1] 135))=w3 at G2 |-
 obtain ⟨q,hq⟩: ∃ q,q=w2.heap.size:=⟨_,rfl⟩
 have G3:Hid (Below W.heap.size W w3/\Blk w3 q [.int .i64 t,.int .i64 tt,.bool gw,.bool gu,.bool gx,.int .i64 1] 135/\W.heap.size<=q):=by rw [hq];exact G2.out
 rw [<- hq]
 clear hq G2
 have x5:w3.cell? ⟨q,5,none⟩=some (.int .i64 1):=G3.out.2.1.cell 5
 go_wp2_with fail
 refine Calls.mono (AC.out _ G3.out.1) ?_
 rintro e w4 ⟨rfl,hb4⟩
 have G4:Hid (Below W.heap.size W w4/\Blk w4 q [.int .i64 t,.int .i64 tt,.bool gw,.bool gu,.bool gx,.int .i64 1] 135/\W.heap.size<=q/\q<w3.heap.size/\Below w3.heap.size w3 w4):=⟨below_then G3.out.1 hb4,G3.out.2.1.below hb4,G3.out.2.2,G3.out.2.1.lt,hb4⟩
 have M4:Hid (Mc (fun j=>Y j\/(W.heap.size<=j/\j<w3.heap.size)) O n w4 M m s T S (a::b::B)):=(HM.out.grow G3.out.1).below hb4
 clear hb4 AC x5 G3
 go_upto_region 7 with fail
 have BS:Hid (Blk w4 M.mb [pp m.rb,pp m.b,pp m.tb,pp M.tl,pp M.tg,.int .i64 M.kf,.map (some M.sm)] 43/\Blk w4 b.sb [.int .i64 b.k,.int .i64 b.root,.slice b.rp b.L.length b.rc,.map (some b.lb)] 131/\Blk w4 q [.int .i64 t,.int .i64 tt,.bool gw,.bool gu,.bool gx,.int .i64 1] 135):=⟨M4.out.mac,(M4.out.sp b mb).blk,G4.out.2.1⟩
 have RR:Hid (O M.mb≠0/\O b.sb≠0/\(Y q\/(W.heap.size<=q/\q<w3.heap.size))):=⟨by rw [M4.out.o1];omega,by rw [(M4.out.sp b mb).o1];omega,Or.inr ⟨G4.out.2.2.1,G4.out.2.2.2.1⟩⟩
 obtain ⟨tb,htb⟩: ∃ tb:Nat,tb=tabsN (pgs b.lf):=⟨_,rfl⟩
 obtain ⟨R,hR⟩: ∃ R:Int,R=ro+(tb:Int):=⟨_,rfl⟩
 obtain ⟨UU,hU⟩: ∃ UU:Int,UU=u-(tb:Int):=⟨_,rfl⟩
 obtain ⟨F,hFF⟩: ∃ F:Nat,F=fr+tb:=⟨_,rfl⟩
 have KC:Hid (∀ w:World,Below w4.heap.size w4 w->Calls Tryz.prog 69 #[pv m b.k,.int .i64 b.root,.int .i64 t] w fun e w'=>e=.returned (.tuple #[.int .i64 v2.f,.int .i64 0])/\StTo (fun j=>(Y j\/(W.heap.size<=j/\j<w3.heap.size))\/O j≠0) m b.root b.k R UU F s b.tab (lfSet b.lf t none) w w'):=fun w hb=>by
  obtain ⟨h1,h2,h3,h4,h5,h6,h7,h8,h9,h10⟩:=HH.out
  have st:St (fun j=>(Y j\/(W.heap.size<=j/\j<w3.heap.size))\/O j≠0) m b.root b.k R UU F s b.tab b.lf w:=⟨M4.out.pu.below hb,M4.out.rt b mb,by
   rw [<- htb,show R-(tb:Int)=ro by omega,show UU+(tb:Int)=u by omega,show F-tb=fr by omega];exact h5,by rw [<- htb];omega⟩
  exact st.unmap_ok (by omega) (by omega) t h4
 refine wp_region_noPanic ?_
 refine wp_region_held_drew (S:=fun cw=>Blk cw M.mb [pp m.rb,pp m.b,pp m.tb,pp M.tl,pp M.tg,.int .i64 M.kf,.map (some M.sm)] 43/\Blk cw b.sb [.int .i64 b.k,.int .i64 b.root,.slice b.rp b.L.length b.rc,.map (some b.lb)] 131/\Blk cw q [.int .i64 t,.int .i64 tt,.bool gw,.bool gu,.bool gx,.int .i64 1] 135) (by kernel_rfl) ?_ (fun hHeld=> ?_)
 . exact BS.out
 have KU:Hid (Below w4.heap.size w4 w4.drew):=below_drew (Below.refl _ _)
 clear BS
 generalize w4.drew=U at hHeld KU |-
 refine tk 0 67 ?_ rfl (Or.inl ⟨by rfl,?_⟩) ?_
 rotate_left
 . intro w hSw;(try dsimp only at hSw);go_simp;(try with_reducible rfl)
 try simp only [Act.put,List.setIfInBounds_toArray,List.set_cons_zero,List.set_cons_succ]
 refine tk 1 68 ?_ rfl (Or.inl ⟨by rfl,?_⟩) ?_
 rotate_left
 . intro w hSw;(try dsimp only at hSw);go_simp;(try with_reducible rfl)
 try simp only [Act.put,List.setIfInBounds_toArray,List.set_cons_zero,List.set_cons_succ]
 refine tk 2 69 ?_ rfl (Or.inl ⟨by rfl,?_⟩) ?_
 rotate_left
 . intro w hSw;(try dsimp only at hSw);go_simp;(try with_reducible rfl)
 try simp only [Act.put,List.setIfInBounds_toArray,List.set_cons_zero,List.set_cons_succ]
 refine tk 3 70 ?_ rfl (Or.inl ⟨by rfl,?_⟩) ?_
 rotate_left
 . intro w hSw;(try dsimp only at hSw);go_simp;(try with_reducible rfl)
 try simp only [Act.put,List.setIfInBounds_toArray,List.set_cons_zero,List.set_cons_succ]
 refine tk 4 71 (.int .i64 b.k) rfl (Or.inl ⟨by rfl,?_⟩) ?_
 . intro w hSw;(try dsimp only at hSw);have r:=Blk.cell hSw.2.1 0;(try go_simp);(try simp [*])
 try simp only [Act.put,List.setIfInBounds_toArray,List.set_cons_zero,List.set_cons_succ]
 refine tk 6 73 ?_ rfl (Or.inl ⟨by rfl,?_⟩) ?_
 rotate_left
 . intro w hSw;(try dsimp only at hSw);go_simp;(try with_reducible rfl)
 try simp only [Act.put,List.setIfInBounds_toArray,List.set_cons_zero,List.set_cons_succ]
 refine tk 7 74 ?_ rfl (Or.inl ⟨by rfl,?_⟩) ?_
 rotate_left
 . intro w hSw;(try dsimp only at hSw);go_simp;(try with_reducible rfl)
 try simp only [Act.put,List.setIfInBounds_toArray,List.set_cons_zero,List.set_cons_succ]
 refine tk 8 75 ?_ rfl (Or.inl ⟨by rfl,?_⟩) ?_
 rotate_left
 . intro w hSw;(try dsimp only at hSw);go_simp;(try with_reducible rfl)
 try simp only [Act.put,List.setIfInBounds_toArray,List.set_cons_zero,List.set_cons_succ]
 refine tk 9 76 (.int .i64 b.root) rfl (Or.inl ⟨by rfl,?_⟩) ?_
 . intro w hSw;(try dsimp only at hSw);have r:=Blk.cell hSw.2.1 1;(try go_simp);(try simp [*])
 try simp only [Act.put,List.setIfInBounds_toArray,List.set_cons_zero,List.set_cons_succ]
 refine tk 10 77 ?_ rfl (Or.inl ⟨by rfl,?_⟩) ?_
 rotate_left
 . intro w hSw;(try dsimp only at hSw);go_simp;(try with_reducible rfl)
 try simp only [Act.put,List.setIfInBounds_toArray,List.set_cons_zero,List.set_cons_succ]
 refine wpAnyH_ready (rs:=[5]) (by kernel_rfl) (by simp) ?_
 refine AllReadyH.cons (o:=⟨some 72,_,_,_,_,none⟩) rfl (fun K hK=> ?_) AllReadyH.nil
 go_simp
 go_wp2_with (go_at_call 36;refine Calls.mono (PC.out _ hHeld.1) ?_;rintro e u5 ⟨rfl,hb5⟩)
 have KU5:Hid (Below w4.heap.size w4 u5):=below_then KU.out hb5
 refine hK.out _ _ ⟨hHeld.1.below hb5,hHeld.2.1.below hb5,hHeld.2.2.below hb5⟩ (fun hHeld2=> ?_)
 clear hK K hHeld hb5 KU
 have hHeld:=hHeld2
 clear hHeld2
 try simp only [Act.put,List.setIfInBounds_toArray,List.set_cons_zero,List.set_cons_succ]
 refine wpAnyH_ready (rs:=[11]) (by kernel_rfl) (by simp) ?_
 refine AllReadyH.cons (o:=⟨some 78,_,_,_,_,none⟩) rfl (fun K hK=> ?_) AllReadyH.nil
 go_simp
 go_wp2_with (go_at_call 69;refine Calls.mono (KC.out _ KU5.out) ?_;rintro e u6 ⟨rfl,s2,tab2,hS,hq2,hA,hKx⟩)
 have E6:Hid (St (fun j=>(Y j\/(W.heap.size<=j/\j<w3.heap.size))\/O j≠0) m b.root b.k R UU F s2 tab2 (lfSet b.lf t none) u6/\s2.q<=s.q+10/\Apt s s2 b.tab tab2/\Kx (fun j=>(Y j\/(W.heap.size<=j/\j<w3.heap.size))\/O j≠0) w4 u6/\Blk u6 q [.int .i64 t,.int .i64 tt,.bool gw,.bool gu,.bool gx,.int .i64 1] 135):=⟨hS,hq2,hA,(kept_of_below KU5.out (fun j hj=>M4.out.pu.lt j hj)).trans hKx,hHeld.2.2.kx hKx (Or.inl RR.out.2.2)⟩
 refine hK.out _ _ ⟨hHeld.1.kx hKx (Or.inr RR.out.1),hHeld.2.1.kx hKx (Or.inr RR.out.2.1),hHeld.2.2.kx hKx (Or.inl RR.out.2.2)⟩ (fun hHeld2=> ?_)
 clear hK K hHeld hS hq2 hA hKx KU5
 have hHeld:=hHeld2
 clear hHeld2
 try simp only [Act.put,List.setIfInBounds_toArray,List.set_cons_zero,List.set_cons_succ]
 clear hHeld
 refine wpAnyH_done (by kernel_rfl) ?_ _
 refine NoPanic.normal ?_
 have M6:Hid (Mc (fun j=>Y j\/(W.heap.size<=j/\j<w3.heap.size)) O n u6 M m s2 T S ({ b with tab:=tab2,lf:=(lfSet b.lf t none) }::a::B)/\Nums m s2 b.k (ro+(tabsN (pgs b.lf):Int)-tabsN (pgs (lfSet b.lf t none))) (u-(tabsN (pgs b.lf):Int)+tabsN (pgs (lfSet b.lf t none))) (fr+tabsN (pgs b.lf)-tabsN (pgs (lfSet b.lf t none)))/\s2.q<=s.q+10/\Kx Y W u6/\Blk u6 q [.int .i64 t,.int .i64 tt,.bool gw,.bool gu,.bool gx,.int .i64 1] 135):=by
  obtain ⟨hS,hq2,hA,hK2,hBq⟩:=E6.out
  refine ⟨M4.out.swap.tabs hK2 hS.pu hS.rt hA (fun p1 v1 e=> ?_),?_,hq2,?_,hBq⟩
  . unfold lfSet at e
    by_cases c:p1=t
    . rw [if_pos c] at e;cases e
    . rw [if_neg c] at e
      obtain ⟨d1,g,d2,d3,d4,d5⟩:=M4.out.dat b mb p1 v1 e
      obtain ⟨k1,k2,_⟩:=hA.oth g (d5 b mb) d4
      refine ⟨d1,g,d2,by rw [k1];exact d3,k2,fun l i e'=> ?_,fun y hy=>d5 y (by rcases List.mem_cons.1 hy with q | q;rw [q];exact ma;exact List.mem_cons_of_mem _ (List.mem_cons_of_mem _ q))⟩
      rcases hA.new l i g e' with q | q
      . exact d5 b mb l i q
      . exact d4 q
  . have q:=hS.nm
    rw [hR,hU,hFF,htb] at q
    exact q
  . exact Kept.trans (kept_of_below G4.out.1 (fun j hj=>HM.out.pu.lt j (Or.inl hj))) (hK2.sub (fun j hj=>Or.inl (Or.inl hj)))
 clear E6 KC htb hR hU hFF PC
 go_wp2_with fail
 refine Calls.mono (FG.out _ _ _ _ _ M6.out.1) ?_
 rintro e w7 ⟨rfl,hb7⟩
 have M7:Hid (Mc (fun j=>Y j\/(W.heap.size<=j/\j<w3.heap.size)) O n w7 M m s2 T S ({ b with tab:=tab2,lf:=(lfSet b.lf t none) }::a::B)/\Kx Y W w7):=⟨M6.out.1.below hb7,M6.out.2.2.2.1.trans (kept_of_below hb7 (fun j hj=>M6.out.1.pu.lt j (Or.inl (Or.inl hj))))⟩
 have BS:Hid (Blk w7 b.sb [.int .i64 b.k,.int .i64 b.root,.slice (some ⟨lg,0,none⟩) 1 b.rc,.map (some b.lb)] 131/\Blk w7 q [.int .i64 t,.int .i64 tt,.bool gw,.bool gu,.bool gx,.int .i64 1] 135):=by
  have q1:Blk w7 b.sb [.int .i64 b.k,.int .i64 b.root,.slice b.rp b.L.length b.rc,.map (some b.lb)] 131:=(M7.out.1.sp _ (List.mem_cons_self ..)).blk
  rw [HH.out.2.2.2.2.2.2.2.2.1,HH.out.2.2.2.2.2.2.2.2.2] at q1
  exact ⟨q1,M6.out.2.2.2.2.below hb7⟩
 have QN:Hid (q≠b.sb):=fun e=>by
  have q1:=M4.out.yo q RR.out.2.2
  exact RR.out.2.1 (by rw [<- e];exact q1)
 have WC:Hid (∀ w:World,Below w7.heap.size w7 w->_):=fun w hb=>WC0.out w (((M7.out.1.below hb).sp _ (List.mem_cons_self ..)).lis)
 clear hb7 FG WC0 RR G4 M4
 go_upto_region 9 with fail
 refine wp_region_noPanic ?_
 refine wp_region_held_drew (S:=fun cw=>Blk cw q [.int .i64 t,.int .i64 tt,.bool gw,.bool gu,.bool gx,.int .i64 1] 135) (by kernel_rfl) ?_ (fun hHeld=> ?_)
 . exact BS.out.2
 have KU:Hid (Below w7.heap.size w7 w7.drew):=below_drew (Below.refl _ _)
 have BU:Hid (Blk w7.drew b.sb [.int .i64 b.k,.int .i64 b.root,.slice (some ⟨lg,0,none⟩) 1 b.rc,.map (some b.lb)] 131):=BS.out.1.below (below_drew (Below.refl _ _))
 clear BS
 generalize w7.drew=U at hHeld KU BU |-
 refine tk 0 83 ?_ rfl (Or.inl ⟨by rfl,?_⟩) ?_
 rotate_left
 . intro w hSw;(try dsimp only at hSw);go_simp;(try with_reducible rfl)
 try simp only [Act.put,List.setIfInBounds_toArray,List.set_cons_zero,List.set_cons_succ]
 refine tk 1 84 ?_ rfl (Or.inl ⟨by rfl,?_⟩) ?_
 rotate_left
 . intro w hSw;(try dsimp only at hSw);go_simp;(try with_reducible rfl)
 try simp only [Act.put,List.setIfInBounds_toArray,List.set_cons_zero,List.set_cons_succ]
 refine tk 2 85 ?_ rfl (Or.inl ⟨by rfl,?_⟩) ?_
 rotate_left
 . intro w hSw;(try dsimp only at hSw);go_simp;(try with_reducible rfl)
 try simp only [Act.put,List.setIfInBounds_toArray,List.set_cons_zero,List.set_cons_succ]
 refine tk 3 86 ?_ rfl (Or.inl ⟨by rfl,?_⟩) ?_
 rotate_left
 . intro w hSw;(try dsimp only at hSw);go_simp;(try with_reducible rfl)
 try simp only [Act.put,List.setIfInBounds_toArray,List.set_cons_zero,List.set_cons_succ]
 refine tk 5 88 (.agg #[.int .i64 t,.int .i64 tt,.bool gw,.bool gu,.bool gx,.int .i64 1]) rfl (Or.inl ⟨by rfl,?_⟩) ?_
 . intro w hSw;(try dsimp only at hSw);have r0:=Blk.cell hSw 0;have r1:=Blk.cell hSw 1;have r2:=Blk.cell hSw 2;have r3:=Blk.cell hSw 3;have r4:=Blk.cell hSw 4;have r5:=Blk.cell hSw 5;(try go_simp);(try simp [*])
 try simp only [Act.put,List.setIfInBounds_toArray,List.set_cons_zero,List.set_cons_succ]
 refine tk 6 89 ?_ rfl (Or.inl ⟨by rfl,?_⟩) ?_
 rotate_left
 . intro w hSw;(try dsimp only at hSw);go_simp;(try with_reducible rfl)
 try simp only [Act.put,List.setIfInBounds_toArray,List.set_cons_zero,List.set_cons_succ]
 have c2:U.cell? ⟨b.sb,2,none⟩=some (.slice (some ⟨lg,0,none⟩) 1 b.rc):=BU.out.cell 2
 refine wpAnyH_ready (rs:=[4]) (by kernel_rfl) (by simp) ?_
 refine AllReadyH.cons (o:=⟨some 87,_,_,_,_,none⟩) rfl (fun K hK=> ?_) AllReadyH.nil
 go_simp
 refine hK.out _ _ hHeld (fun hHeld2=> ?_)
 clear hK K hHeld c2
 have hHeld:=hHeld2
 clear hHeld2
 try simp only [Act.put,List.setIfInBounds_toArray,List.set_cons_zero,List.set_cons_succ]
 refine wpAnyH_ready (rs:=[7]) (by kernel_rfl) (by simp) ?_
 refine AllReadyH.cons (o:=⟨some 90,_,_,_,_,none⟩) rfl (fun K hK=> ?_) AllReadyH.nil
 go_simp
 go_wp2_with (go_at_call 71;refine Calls.mono (WC.out _ KU.out) ?_;rintro e u8 ⟨rfl,hb8⟩)
 have KU8:Hid (Below w7.heap.size w7 u8):=below_then KU.out hb8
 have BU8:Hid (Blk u8 b.sb [.int .i64 b.k,.int .i64 b.root,.slice (some ⟨lg,0,none⟩) 1 b.rc,.map (some b.lb)] 131):=BU.out.below hb8
 refine hK.out _ _ (hHeld.below hb8) (fun hHeld2=> ?_)
 clear hK K hHeld hb8 KU BU
 have hHeld:=hHeld2
 clear hHeld2
 try simp only [Act.put,List.setIfInBounds_toArray,List.set_cons_zero,List.set_cons_succ]
 refine tk 8 91 ?_ rfl (Or.inl ⟨by rfl,?_⟩) ?_
 rotate_left
 . intro w hSw;(try dsimp only at hSw);go_simp;(try with_reducible rfl)
 try simp only [Act.put,List.setIfInBounds_toArray,List.set_cons_zero,List.set_cons_succ]
 refine tk 9 92 ?_ rfl (Or.inl ⟨by rfl,?_⟩) ?_
 rotate_left
 . intro w hSw;(try dsimp only at hSw);go_simp;(try with_reducible rfl)
 try simp only [Act.put,List.setIfInBounds_toArray,List.set_cons_zero,List.set_cons_succ]
 have c2:u8.cell? ⟨b.sb,2,none⟩=some (.slice (some ⟨lg,0,none⟩) 1 b.rc):=BU8.out.cell 2
 have z2:u8.frozen? ⟨b.sb,2,none⟩=false:=BU8.out.free 2
 have gk:=Qu.grown_setCell1 u8 b.sb 2 (.slice none 0 0)
 have M9:Hid (∃ O',Mc Y O' n (u8.setCell ⟨b.sb,2,none⟩ (.slice none 0 0)) M m s2 T S (a::{ b with tab:=tab2,lf:=(lfSet b.lf t none),rp:=none,rc:=0,L:=[] }::B)/\Kx Y W (u8.setCell ⟨b.sb,2,none⟩ (.slice none 0 0))):=by
  obtain ⟨q1,q2⟩:=M7.out
  obtain ⟨O',k1,k2⟩:=(q1.below KU8.out).adopt (p':=none) (c':=0) (L':=[]) Y (fun j hj=>Or.inl hj) HM.out.y0 (fun i hi=>absurd hi (Nat.not_lt_zero _)) (fun g e=>by cases e) (Nat.le_refl _) (Nat.zero_le _)
  exact ⟨O',k1.swap,q2.trans (Kept.trans (kept_of_below KU8.out (fun j hj=>q1.pu.lt j (Or.inl (Or.inl hj)))) (k2.sub (fun j hj=>Or.inl hj)))⟩
 have KE:Hid (Blk (u8.setCell ⟨b.sb,2,none⟩ (.slice none 0 0)) q [.int .i64 t,.int .i64 tt,.bool gw,.bool gu,.bool gx,.int .i64 1] 135):=(gk.block _ hHeld.lt (fun e=>QN.out (Option.some.inj e))).trans hHeld
 clear gk
 refine wpAnyH_ready (rs:=[10]) (by kernel_rfl) (by simp) ?_
 refine AllReadyH.cons (o:=⟨none,.store 73 (.tmp 92) (.tmp 90),_,_,_,none⟩) rfl (fun K hK=> ?_) AllReadyH.nil
 go_simp
 refine hK.out _ _ KE.out (fun hHeld2=> ?_)
 clear hK K hHeld KE BU8 KU8 c2 z2
 have hHeld:=hHeld2
 clear hHeld2
 try simp only [Act.put,List.setIfInBounds_toArray,List.set_cons_zero,List.set_cons_succ]
 generalize (u8.setCell ⟨b.sb,2,none⟩ (.slice none 0 0))=u9 at M9 hHeld |-
 clear hHeld
 refine wpAnyH_done (by kernel_rfl) ?_ _
 refine NoPanic.normal ?_
 obtain ⟨O9,hM9,hK9⟩:=M9.out
 have M8:Hid (Mc Y O9 n u9 M m s2 T S (a::{ b with tab:=tab2,lf:=(lfSet b.lf t none),rp:=none,rc:=0,L:=[] }::B)/\Kx Y W u9):=⟨hM9,hK9⟩
 obtain ⟨cm,hcm⟩:=(hM9.sp a (List.mem_cons_self ..)).map
 have lk:(Instr.lookup 110 (.map (some a.lb)) (.int .i64 p) false).run Tryz.prog u9=.ok (.int .i64 z) u9:=by
  have q:=look1 hcm (k:=(p:Int)) (wf64 (by omega) (by have:=HH.out.1;omega))
  rw [HH.out.2.1] at q;exact q
 have zw:IntKind.i64.wrap (z-1)=z-1:=by have:=HH.out.2.2.1;simp only [IntKind.wrap_i64];omega
 obtain ⟨uA,hset,hmA,hgA⟩:=hcm.set (k:=(p:Int)) (v:=z-1) (by have:=HH.out.2.2.2.2.2.2.2.1;unfold maxLen;omega) (wf64 (by omega) (by have:=HH.out.1;omega)) (wf64 (by have:=HH.out.2.2.1;omega) (by have:=HH.out.2.2.1;omega))
 have hset:(Instr.mapUpdate 110 (.map (some a.lb)) (.int .i64 p) (.int .i64 (z-1))).run Tryz.prog u9=.ok () uA:=hset
 have HE:Hid (Backed Y n W uA M m s T S a b B p t z ro u fr):=by
  obtain ⟨q1,q2⟩:=M8.out.1.lent hgA ⟨_,hmA⟩
  obtain ⟨_,n2,n3,_⟩:=M6.out
  exact ⟨O9,s2,tab2,q1,n2,n3,M8.out.2.trans q2⟩
 have c3:u9.cell? ⟨a.sb,3,none⟩=some (.map (some a.lb)):=(hM9.sp a (List.mem_cons_self ..)).blk.cell 3
 clear hcm hmA hgA hM9 hK9 M9 M8 M7 M6 HM HH dz dz2
 go_wp2_with fail
 go_returns
 exact ⟨rfl,HE.out⟩
end Go.Proofs.YtmabmknmnkhhbaaGreatDoor.Sp
namespace Go.Proofs.YtmabmknmnkhhbaaGreatDoor.Sp
open Go.ChangeShapes Go.WideShapes Go.ChangeAt Go.RowKit Go.Maps
open Go.Proofs.YtmabmknmnkhhbaaGreatDoor.Tt
set_option linter.unusedSimpArgs false
set_option linter.unusedVariables false
set_option maxRecDepth 8000
def Lent (Y:Nat->Prop) (n:Nat) (W w':World) (M:Mb) (m:Pm) (s:Ps) (T:Nat->Tl.Ln) (S:Pc.Tg) (a b:Sr) (B:List Sr) (p t:Nat) (v:Lf) (z:Int) (pw pu px:Bool) (L':List Re.Rg) (ro u:Int) (fr:Nat):Prop :=
 ∃ (O':Nat->Nat) (s':Ps) (tab':Nat->Nat->Option Nat) (p':Option Addr) (c':Nat),Mc Y O' n w' M m s' T S ({ a with ln:=a.ln+1,lt:=Pc.setF a.lt p (some (z+1)) }::{ b with tab:=tab',lf:=(lfSet b.lf t (some ⟨v.f,pw,pu,px⟩)),rp:=p',rc:=c',L:=L' }::B)/\Nums m s' b.k (ro-fresh (pgs b.lf) t) (u+fresh (pgs b.lf) t) (fr-fresh (pgs b.lf) t)/\s'.q<=s.q+10/\Kx Y W w'
set_option maxHeartbeats 4000000 in
theorem lend_ok {Y:Nat->Prop} {O:Nat->Nat} {n:Nat} {W:World} {M:Mb} {m:Pm} {s:Ps} {T:Nat->Tl.Ln} {S:Pc.Tg} {a b:Sr} {B:List Sr} (h:Mc Y O n W M m s T S (a::b::B)) (ab:b.id≠a.id) (wa:(Lit.int .i64 a.id).wf=true) (wb:(Lit.int .i64 b.id).wf=true) (p t:Nat) (hp:p<34359738368) (ht:t<34359738368) (pw pu px:Bool)
 (hl: ∀ w:World,Below W.heap.size W w->Calls Tryz.prog 50 #[pp a.sb,.int .i64 p,.agg #[.bool pw,.bool pu,.bool px]] w fun e w'=>e=.returned (.int .i64 0)/\Below w.heap.size w w')
 (v:Lf) (hv:a.lf p=some v) (z:Int) (hz:a.lt p=some z) (z0:0<=z) (z1:z<1000000) (L':List Re.Rg) (hE:Re.errA (Re.addN b.L ⟨(t:Nat),(t:Nat)+1,pw,pu,px,1⟩) (Re.addL b.L ⟨(t:Nat),(t:Nat)+1,pw,pu,px,1⟩)=0) (hL:Re.addL b.L ⟨(t:Nat),(t:Nat)+1,pw,pu,px,1⟩=L') (h64:L'.length<=64) (hn:b.lf t=none)
 {ro u:Int} {fr:Nat} (hN:Nums m s b.k ro u fr) (hr:(fresh (pgs b.lf) t:Int)<=ro) (hf:10<=fr) (hq:s.q<3000000000000000000) (hln:a.ln<1000000) :
 Calls Tryz.prog 18 #[pp M.mb,.int .i64 a.id,.int .i64 p,.int .i64 b.id,.int .i64 t,.agg #[.bool pw,.bool pu,.bool px]] W fun e w'=>e=.returned (.int .i64 0)/\Lent Y n W w' M m s T S a b B p t v z pw pu px L' ro u fr:=by
 have ma:a∈a::b::B:=by simp
 have mb:b∈a::b::B:=by simp
 have sb:=h.sp b mb
 have bb:Below W.heap.size W (W.alloc (.cells #[.bool pw,.bool pu,.bool px] 58)):=Go.Joins.below_alloc1 _ _
 have l1:(Instr.lookup 41 (.map (some M.sm)) (.int .i64 a.id) false).run Tryz.prog (W.alloc (.cells #[.bool pw,.bool pu,.bool px] 58)).drew=.ok (.pointer (some ⟨a.sb,0,none⟩)) (W.alloc (.cells #[.bool pw,.bool pu,.bool px] 58)).drew:=by
  have q:=((h.below bb).map.block (w':=(W.alloc (.cells #[.bool pw,.bool pu,.bool px] 58)).drew) rfl).look wa
  rw [spF_head] at q;exact q
 have l2:(Instr.lookup 41 (.map (some M.sm)) (.int .i64 b.id) false).run Tryz.prog (W.alloc (.cells #[.bool pw,.bool pu,.bool px] 58)).drew=.ok (.pointer (some ⟨b.sb,0,none⟩)) (W.alloc (.cells #[.bool pw,.bool pu,.bool px] 58)).drew:=by
  have q:=((h.below bb).map.block (w':=(W.alloc (.cells #[.bool pw,.bool pu,.bool px] 58)).drew) rfl).look wb
  rw [spF_two _ ab] at q;exact q
 have c6:(W.alloc (.cells #[.bool pw,.bool pu,.bool px] 58)).cell? ⟨M.mb,6,none⟩=some (.map (some M.sm)):=(h.below bb).mac.cell 6
 have HB:Hid (Below W.heap.size W (W.alloc (.cells #[.bool pw,.bool pu,.bool px] 58))/\Blk (W.alloc (.cells #[.bool pw,.bool pu,.bool px] 58)) W.heap.size [.bool pw,.bool pu,.bool px] 58):=⟨bb,Blk.made _ _ _⟩
 have LC:Hid (_):=hl
 have SC:Hid (∀ w:World,_):=fun w=>single_any (t:Nat) (by omega) (by omega) w
 have AC0:Hid (∀ w:World,Below W.heap.size W w->Calls Tryz.prog 49 #[.slice b.rp b.L.length b.rc,.agg #[.int .i64 (t:Nat),.int .i64 ((t:Nat)+1),.bool pw,.bool pu,.bool px,.int .i64 1]] w fun e w'=> ∃ p' c',e=.returned (.tuple #[.slice p' L'.length c',.int .i64 0])/\L'.length<=c'/\Re.IsL w' w.heap.size p' L'/\Below w.heap.size w w'):=fun w hb=>add_new b.rp b.rc b.L (by have:=sb.few;omega) sb.cap ⟨(t:Nat),(t:Nat)+1,pw,pu,px,1⟩ 0 L' hE (by unfold Re.outL;rw [if_pos hE];exact hL) w (sb.lis.below hb)
 have LE:Hid (∀ w:World,Below W.heap.size W w->Calls Tryz.prog 52 #[pp M.mb,pp a.sb,.int .i64 p] w fun e w'=>e=.returned (.tuple #[.int .i64 v.f,.agg #[.bool v.w,.bool v.u,.bool v.x],.bool true])/\Below w.heap.size w w'):=fun w hw=>by
  have q:=leads_any (h.below hw) p
  rw [hv] at q;exact q
 have PC:Hid (∀ w:World,Blk w M.mb [pp m.rb,pp m.b,pp m.tb,pp M.tl,pp M.tg,.int .i64 M.kf,.map (some M.sm)] 43->_):=fun w hb=>purse_any M.mb m.rb m.b m.tb b.k _ _ _ _ w hb
 have HM:Hid (Mc Y O n W M m s T S (a::b::B)):=h
 have HH:Hid (p<34359738368/\t<34359738368/\a.lf p=some v/\a.lt p=some z/\(0<=z/\z<1000000)/\L'.length<=64/\b.lf t=none/\Nums m s b.k ro u fr/\(fresh (pgs b.lf) t:Int)<=ro/\10<=fr/\s.q<3000000000000000000/\a.ln<1000000):=⟨hp,ht,hv,hz,⟨z0,z1⟩,h64,hn,hN,hr,hf,hq,hln⟩
 clear h bb hl hE hL sb hp ht hv hz z0 z1 h64 hn hN hr hf hq hln wa wb ab
 go_enter Tryz.func18,Tryz.ntmps18
 go_upto_region 1 with fail
 generalize (W.alloc (.cells #[.bool pw,.bool pu,.bool px] 58))=W1 at HB l1 l2 c6 |-
 obtain ⟨q,hq⟩: ∃ q,q=W.heap.size:=⟨_,rfl⟩
 have H1:Hid (Below W.heap.size W W1/\Blk W1 q [.bool pw,.bool pu,.bool px] 58/\q=W.heap.size):=by rw [hq];exact ⟨HB.out.1,HB.out.2,rfl⟩
 rw [<- hq]
 clear hq HB
 have x0:W1.cell? ⟨q,0,none⟩=some (.bool pw):=H1.out.2.1.cell 0
 have x1:W1.cell? ⟨q,1,none⟩=some (.bool pu):=H1.out.2.1.cell 1
 have x2:W1.cell? ⟨q,2,none⟩=some (.bool px):=H1.out.2.1.cell 2
 go_region
 go_wp2_with fail
 refine Calls.mono (LC.out _ (below_drew H1.out.1)) ?_
 rintro e w2 ⟨rfl,hb2⟩
 have H2:Hid (Below W.heap.size W w2/\Blk w2 q [.bool pw,.bool pu,.bool px] 58/\q=W.heap.size):=⟨below_then (below_drew H1.out.1) hb2,(H1.out.2.1.below (below_drew (Below.refl _ _))).below hb2,H1.out.2.2⟩
 clear hb2 H1 LC x0 x1 x2 l1 l2 c6
 go_upto_region 7 with fail
 have AC:Hid (∀ w:World,Below w2.heap.size w2 w->_):=fun w hb=>AC0.out w (below_then H2.out.1 hb)
 have BS:Hid (Blk w2 b.sb [.int .i64 b.k,.int .i64 b.root,.slice b.rp b.L.length b.rc,.map (some b.lb)] 131/\Blk w2 q [.bool pw,.bool pu,.bool px] 58):=⟨((HM.out.below H2.out.1).sp b mb).blk,H2.out.2.1⟩
 clear AC0
 refine wp_region_noPanic ?_
 refine wp_region_held_drew (S:=fun cw=>Blk cw b.sb [.int .i64 b.k,.int .i64 b.root,.slice b.rp b.L.length b.rc,.map (some b.lb)] 131/\Blk cw q [.bool pw,.bool pu,.bool px] 58) (by kernel_rfl) ?_ (fun hHeld=> ?_)
 . exact BS.out
 have KU:Hid (Below w2.heap.size w2 w2.drew):=below_drew (Below.refl _ _)
 clear BS
 generalize w2.drew=U at hHeld KU |-
 refine tk 0 48 ?_ rfl (Or.inl ⟨by rfl,?_⟩) ?_
 rotate_left
 . intro w hSw;(try dsimp only at hSw);go_simp;(try with_reducible rfl)
 try simp only [Act.put,List.setIfInBounds_toArray,List.set_cons_zero,List.set_cons_succ]
 refine tk 1 49 ?_ rfl (Or.inl ⟨by rfl,?_⟩) ?_
 rotate_left
 . intro w hSw;(try dsimp only at hSw);go_simp;(try with_reducible rfl)
 try simp only [Act.put,List.setIfInBounds_toArray,List.set_cons_zero,List.set_cons_succ]
 refine tk 2 50 ?_ rfl (Or.inl ⟨by rfl,?_⟩) ?_
 rotate_left
 . intro w hSw;(try dsimp only at hSw);go_simp;(try with_reducible rfl)
 try simp only [Act.put,List.setIfInBounds_toArray,List.set_cons_zero,List.set_cons_succ]
 refine tk 3 51 (.slice b.rp b.L.length b.rc) rfl (Or.inl ⟨by rfl,?_⟩) ?_
 . intro w hSw;(try dsimp only at hSw);have r:=Blk.cell hSw.1 2;(try go_simp);(try simp [*])
 try simp only [Act.put,List.setIfInBounds_toArray,List.set_cons_zero,List.set_cons_succ]
 refine tk 4 52 ?_ rfl (Or.inl ⟨by rfl,?_⟩) ?_
 rotate_left
 . intro w hSw;(try dsimp only at hSw);go_simp;(try with_reducible rfl)
 try simp only [Act.put,List.setIfInBounds_toArray,List.set_cons_zero,List.set_cons_succ]
 refine tk 6 54 (.agg #[.bool pw,.bool pu,.bool px]) rfl (Or.inl ⟨by rfl,?_⟩) ?_
 . intro w hSw;(try dsimp only at hSw);have r0:=Blk.cell hSw.2 0;have r1:=Blk.cell hSw.2 1;have r2:=Blk.cell hSw.2 2;(try go_simp);(try simp [*])
 try simp only [Act.put,List.setIfInBounds_toArray,List.set_cons_zero,List.set_cons_succ]
 refine wpAnyH_ready (rs:=[5]) (by kernel_rfl) (by simp) ?_
 refine AllReadyH.cons (o:=⟨some 53,_,_,_,_,none⟩) rfl (fun K hK=> ?_) AllReadyH.nil
 go_simp
 go_wp2_with (go_at_call 51;refine Calls.mono (SC.out _) ?_;rintro e u1 ⟨rfl,hb1⟩)
 have KU1:Hid (Below w2.heap.size w2 u1):=below_then KU.out hb1
 refine hK.out _ _ ⟨hHeld.1.below hb1,hHeld.2.below hb1⟩ (fun hHeld2=> ?_)
 clear hK K hHeld hb1 KU
 have hHeld:=hHeld2
 clear hHeld2
 try simp only [Act.put,List.setIfInBounds_toArray,List.set_cons_zero,List.set_cons_succ]
 refine tk 7 55 ?_ rfl (Or.inl ⟨by rfl,?_⟩) ?_
 rotate_left
 . intro w hSw;(try dsimp only at hSw);go_simp;(try with_reducible rfl)
 try simp only [Act.put,List.setIfInBounds_toArray,List.set_cons_zero,List.set_cons_succ]
 refine wpAnyH_ready (rs:=[8]) (by kernel_rfl) (by simp) ?_
 refine AllReadyH.cons (o:=⟨some 56,_,_,_,_,none⟩) rfl (fun K hK=> ?_) AllReadyH.nil
 go_simp
 go_wp2_with (go_at_call 49;refine Calls.mono (AC.out _ KU1.out) ?_;rintro e u2 ⟨p',c',rfl,hc,hi,hb2⟩)
 have KU2:Hid (Below w2.heap.size w2 u2/\L'.length<=c'/\Re.IsL u2 w2.heap.size p' L'):=⟨below_then KU1.out hb2,hc,hi.weak KU1.out.size⟩
 refine hK.out _ _ ⟨hHeld.1.below hb2,hHeld.2.below hb2⟩ (fun hHeld2=> ?_)
 clear hK K hHeld hc hi hb2 KU1
 have hHeld:=hHeld2
 clear hHeld2
 try simp only [Act.put,List.setIfInBounds_toArray,List.set_cons_zero,List.set_cons_succ]
 refine tk 9 47 ?_ rfl (Or.inl ⟨by rfl,?_⟩) ?_
 rotate_left
 . intro w hSw;(try dsimp only at hSw);go_simp;(try with_reducible rfl)
 try simp only [Act.put,List.setIfInBounds_toArray,List.set_cons_zero,List.set_cons_succ]
 refine tk 10 57 ?_ rfl (Or.inl ⟨by rfl,?_⟩) ?_
 rotate_left
 . intro w hSw;(try dsimp only at hSw);go_simp;(try with_reducible rfl)
 try simp only [Act.put,List.setIfInBounds_toArray,List.set_cons_zero,List.set_cons_succ]
 refine tk 11 58 ?_ rfl (Or.inl ⟨by rfl,?_⟩) ?_
 rotate_left
 . intro w hSw;(try dsimp only at hSw);go_simp;(try with_reducible rfl)
 try simp only [Act.put,List.setIfInBounds_toArray,List.set_cons_zero,List.set_cons_succ]
 refine tk 12 16 ?_ rfl (Or.inl ⟨by rfl,?_⟩) ?_
 rotate_left
 . intro w hSw;(try dsimp only at hSw);go_simp;(try with_reducible rfl)
 try simp only [Act.put,List.setIfInBounds_toArray,List.set_cons_zero,List.set_cons_succ]
 refine tk 13 17 ?_ rfl (Or.inl ⟨by rfl,?_⟩) ?_
 rotate_left
 . intro w hSw;(try dsimp only at hSw);go_simp;(try with_reducible rfl)
 try simp only [Act.put,List.setIfInBounds_toArray,List.set_cons_zero,List.set_cons_succ]
 clear hHeld
 refine wpAnyH_done (by kernel_rfl) ?_ _
 refine NoPanic.normal ?_
 have H3:Hid (Below W.heap.size W u2/\Blk u2 q [.bool pw,.bool pu,.bool px] 58/\q=W.heap.size):=⟨below_then H2.out.1 KU2.out.1,H2.out.2.1.below KU2.out.1,H2.out.2.2⟩
 go_wp2_with fail
 refine Calls.mono (LE.out _ H3.out.1) ?_
 rintro e u3 ⟨rfl,hb3⟩
 have H4:Hid (Below W.heap.size W (u3.alloc (.cells #[.bool v.w,.bool v.u,.bool v.x] 58))/\Blk (u3.alloc (.cells #[.bool v.w,.bool v.u,.bool v.x] 58)) q [.bool pw,.bool pu,.bool px] 58/\q=W.heap.size/\Below w2.heap.size w2 (u3.alloc (.cells #[.bool v.w,.bool v.u,.bool v.x] 58))/\L'.length<=c'/\Re.IsL (u3.alloc (.cells #[.bool v.w,.bool v.u,.bool v.x] 58)) w2.heap.size p' L'):=⟨below_then (below_then H3.out.1 hb3) (Go.Joins.below_alloc1 _ _),(H3.out.2.1.below hb3).below (Go.Joins.below_alloc1 _ _),H3.out.2.2,below_then (below_then KU2.out.1 hb3) (Go.Joins.below_alloc1 _ _),KU2.out.2.1,(KU2.out.2.2.below hb3).below (Go.Joins.below_alloc1 _ _)⟩
 clear hb3 H3 KU2 LE AC SC
 go_upto_region 11 with fail
 generalize (u3.alloc (.cells #[.bool v.w,.bool v.u,.bool v.x] 58))=u4 at H4 |-
 have M4:Hid (Mc (fun j=>Y j\/(W.heap.size<=j/\j<u4.heap.size)) O n u4 M m s T S (a::b::B)):=HM.out.grow H4.out.1
 have BS:Hid (Blk u4 M.mb [pp m.rb,pp m.b,pp m.tb,pp M.tl,pp M.tg,.int .i64 M.kf,.map (some M.sm)] 43/\Blk u4 b.sb [.int .i64 b.k,.int .i64 b.root,.slice b.rp b.L.length b.rc,.map (some b.lb)] 131/\Blk u4 q [.bool pw,.bool pu,.bool px] 58):=⟨M4.out.mac,(M4.out.sp b mb).blk,H4.out.2.1⟩
 have RR:Hid (O M.mb≠0/\O b.sb≠0/\(Y q\/(W.heap.size<=q/\q<u4.heap.size))):=by
  have l2:=H4.out.2.1.lt
  have l3:=H4.out.2.2.1
  exact ⟨by rw [M4.out.o1];omega,by rw [(M4.out.sp b mb).o1];omega,Or.inr ⟨by omega,l2⟩⟩
 obtain ⟨tb,htb⟩: ∃ tb:Nat,tb=tabsN (pgs b.lf):=⟨_,rfl⟩
 obtain ⟨R,hR⟩: ∃ R:Int,R=ro+(tb:Int):=⟨_,rfl⟩
 obtain ⟨UU,hU⟩: ∃ UU:Int,UU=u-(tb:Int):=⟨_,rfl⟩
 obtain ⟨F,hFF⟩: ∃ F:Nat,F=fr+tb:=⟨_,rfl⟩
 have KC:Hid (∀ w:World,Below u4.heap.size u4 w->Calls Tryz.prog 53 #[pv m b.k,.int .i64 b.root,.int .i64 t,.int .i64 v.f,.agg #[.bool pw,.bool pu,.bool px]] w fun e w'=>e=.returned (.int .i64 0)/\StTo (fun j=>(Y j\/(W.heap.size<=j/\j<u4.heap.size))\/O j≠0) m b.root b.k R UU F s b.tab (lfSet b.lf t (some ⟨v.f,pw,pu,px⟩)) w w'):=fun w hb=>by
  obtain ⟨h1,h2,h3,h4,h5,h6,h7,h8,h9,h10,h11,h12⟩:=HH.out
  have st:St (fun j=>(Y j\/(W.heap.size<=j/\j<u4.heap.size))\/O j≠0) m b.root b.k R UU F s b.tab b.lf w:=⟨M4.out.pu.below hb,M4.out.rt b mb,by
   rw [<- htb,show R-(tb:Int)=ro by omega,show UU+(tb:Int)=u by omega,show F-tb=fr by omega];exact h8,by rw [<- htb];omega⟩
  obtain ⟨f,hvf,gf,_⟩:=(HM.out.dat a ma p v h3).2
  have fl:=HM.out.pu.so.gb f (by rw [gf];rfl)
  exact st.map_ok (Or.inr (by rw [<- htb];omega)) (by omega) t h2 v.f ⟨by omega,by omega⟩ pw pu px h7 (by rw [<- htb];omega)
 refine wp_region_noPanic ?_
 refine wp_region_held_drew (S:=fun cw=>Blk cw M.mb [pp m.rb,pp m.b,pp m.tb,pp M.tl,pp M.tg,.int .i64 M.kf,.map (some M.sm)] 43/\Blk cw b.sb [.int .i64 b.k,.int .i64 b.root,.slice b.rp b.L.length b.rc,.map (some b.lb)] 131/\Blk cw q [.bool pw,.bool pu,.bool px] 58) (by kernel_rfl) ?_ (fun hHeld=> ?_)
 . exact BS.out
 have KU:Hid (Below u4.heap.size u4 u4.drew):=below_drew (Below.refl _ _)
 clear BS
 generalize u4.drew=U at hHeld KU |-
 refine tk 0 70 ?_ rfl (Or.inl ⟨by rfl,?_⟩) ?_
 rotate_left
 . intro w hSw;(try dsimp only at hSw);go_simp;(try with_reducible rfl)
 try simp only [Act.put,List.setIfInBounds_toArray,List.set_cons_zero,List.set_cons_succ]
 refine tk 1 71 ?_ rfl (Or.inl ⟨by rfl,?_⟩) ?_
 rotate_left
 . intro w hSw;(try dsimp only at hSw);go_simp;(try with_reducible rfl)
 try simp only [Act.put,List.setIfInBounds_toArray,List.set_cons_zero,List.set_cons_succ]
 refine tk 2 72 ?_ rfl (Or.inl ⟨by rfl,?_⟩) ?_
 rotate_left
 . intro w hSw;(try dsimp only at hSw);go_simp;(try with_reducible rfl)
 try simp only [Act.put,List.setIfInBounds_toArray,List.set_cons_zero,List.set_cons_succ]
 refine tk 3 73 ?_ rfl (Or.inl ⟨by rfl,?_⟩) ?_
 rotate_left
 . intro w hSw;(try dsimp only at hSw);go_simp;(try with_reducible rfl)
 try simp only [Act.put,List.setIfInBounds_toArray,List.set_cons_zero,List.set_cons_succ]
 refine tk 4 74 (.int .i64 b.k) rfl (Or.inl ⟨by rfl,?_⟩) ?_
 . intro w hSw;(try dsimp only at hSw);have r:=Blk.cell hSw.2.1 0;(try go_simp);(try simp [*])
 try simp only [Act.put,List.setIfInBounds_toArray,List.set_cons_zero,List.set_cons_succ]
 refine tk 6 76 ?_ rfl (Or.inl ⟨by rfl,?_⟩) ?_
 rotate_left
 . intro w hSw;(try dsimp only at hSw);go_simp;(try with_reducible rfl)
 try simp only [Act.put,List.setIfInBounds_toArray,List.set_cons_zero,List.set_cons_succ]
 refine tk 7 77 ?_ rfl (Or.inl ⟨by rfl,?_⟩) ?_
 rotate_left
 . intro w hSw;(try dsimp only at hSw);go_simp;(try with_reducible rfl)
 try simp only [Act.put,List.setIfInBounds_toArray,List.set_cons_zero,List.set_cons_succ]
 refine tk 8 78 ?_ rfl (Or.inl ⟨by rfl,?_⟩) ?_
 rotate_left
 . intro w hSw;(try dsimp only at hSw);go_simp;(try with_reducible rfl)
 try simp only [Act.put,List.setIfInBounds_toArray,List.set_cons_zero,List.set_cons_succ]
 refine tk 9 79 (.int .i64 b.root) rfl (Or.inl ⟨by rfl,?_⟩) ?_
 . intro w hSw;(try dsimp only at hSw);have r:=Blk.cell hSw.2.1 1;(try go_simp);(try simp [*])
 try simp only [Act.put,List.setIfInBounds_toArray,List.set_cons_zero,List.set_cons_succ]
 refine tk 10 80 ?_ rfl (Or.inl ⟨by rfl,?_⟩) ?_
 rotate_left
 . intro w hSw;(try dsimp only at hSw);go_simp;(try with_reducible rfl)
 try simp only [Act.put,List.setIfInBounds_toArray,List.set_cons_zero,List.set_cons_succ]
 refine tk 11 81 ?_ rfl (Or.inl ⟨by rfl,?_⟩) ?_
 rotate_left
 . intro w hSw;(try dsimp only at hSw);go_simp;(try with_reducible rfl)
 try simp only [Act.put,List.setIfInBounds_toArray,List.set_cons_zero,List.set_cons_succ]
 refine tk 12 82 (.agg #[.bool pw,.bool pu,.bool px]) rfl (Or.inl ⟨by rfl,?_⟩) ?_
 . intro w hSw;(try dsimp only at hSw);have r0:=Blk.cell hSw.2.2 0;have r1:=Blk.cell hSw.2.2 1;have r2:=Blk.cell hSw.2.2 2;(try go_simp);(try simp [*])
 try simp only [Act.put,List.setIfInBounds_toArray,List.set_cons_zero,List.set_cons_succ]
 refine wpAnyH_ready (rs:=[5]) (by kernel_rfl) (by simp) ?_
 refine AllReadyH.cons (o:=⟨some 75,_,_,_,_,none⟩) rfl (fun K hK=> ?_) AllReadyH.nil
 go_simp
 go_wp2_with (go_at_call 36;refine Calls.mono (PC.out _ hHeld.1) ?_;rintro e u5 ⟨rfl,hb5⟩)
 have KU5:Hid (Below u4.heap.size u4 u5):=below_then KU.out hb5
 refine hK.out _ _ ⟨hHeld.1.below hb5,hHeld.2.1.below hb5,hHeld.2.2.below hb5⟩ (fun hHeld2=> ?_)
 clear hK K hHeld hb5 KU
 have hHeld:=hHeld2
 clear hHeld2
 try simp only [Act.put,List.setIfInBounds_toArray,List.set_cons_zero,List.set_cons_succ]
 refine wpAnyH_ready (rs:=[13]) (by kernel_rfl) (by simp) ?_
 refine AllReadyH.cons (o:=⟨some 83,_,_,_,_,none⟩) rfl (fun K hK=> ?_) AllReadyH.nil
 go_simp
 go_wp2_with (go_at_call 53;refine Calls.mono (KC.out _ KU5.out) ?_;rintro e u6 ⟨rfl,s2,tab2,hS,hq2,hA,hKx⟩)
 have E6:Hid (St (fun j=>(Y j\/(W.heap.size<=j/\j<u4.heap.size))\/O j≠0) m b.root b.k R UU F s2 tab2 (lfSet b.lf t (some ⟨v.f,pw,pu,px⟩)) u6/\s2.q<=s.q+10/\Apt s s2 b.tab tab2/\Kx (fun j=>(Y j\/(W.heap.size<=j/\j<u4.heap.size))\/O j≠0) u4 u6):=⟨hS,hq2,hA,(kept_of_below KU5.out (fun j hj=>M4.out.pu.lt j hj)).trans hKx⟩
 refine hK.out _ _ ⟨hHeld.1.kx hKx (Or.inr RR.out.1),hHeld.2.1.kx hKx (Or.inr RR.out.2.1),hHeld.2.2.kx hKx (Or.inl RR.out.2.2)⟩ (fun hHeld2=> ?_)
 clear hK K hHeld hS hq2 hA hKx KU5
 have hHeld:=hHeld2
 clear hHeld2
 try simp only [Act.put,List.setIfInBounds_toArray,List.set_cons_zero,List.set_cons_succ]
 refine tk 14 21 ?_ rfl (Or.inl ⟨by rfl,?_⟩) ?_
 rotate_left
 . intro w hSw;(try dsimp only at hSw);go_simp;(try with_reducible rfl)
 try simp only [Act.put,List.setIfInBounds_toArray,List.set_cons_zero,List.set_cons_succ]
 clear hHeld
 refine wpAnyH_done (by kernel_rfl) ?_ _
 refine NoPanic.normal ?_
 have M6:Hid (Mc (fun j=>Y j\/(W.heap.size<=j/\j<u4.heap.size)) O n u6 M m s2 T S ({ b with tab:=tab2,lf:=(lfSet b.lf t (some ⟨v.f,pw,pu,px⟩)) }::a::B)/\Nums m s2 b.k (ro-fresh (pgs b.lf) t) (u+fresh (pgs b.lf) t) (fr-fresh (pgs b.lf) t)/\s2.q<=s.q+10/\Kx Y W u6/\Re.IsL u6 0 p' L'/\(∀ g,p'=some ⟨g,0,none⟩->0<L'.length->(Y g\/(W.heap.size<=g/\g<u4.heap.size))/\ ¬ Y g)/\L'.length<=c'):=by
  obtain ⟨hS,hq2,hA,hK2⟩:=E6.out
  obtain ⟨h1,h2,h3,h4,h5,h6,h7,h8,h9,h10,h11,h12⟩:=HH.out
  obtain ⟨i1,i2,i3,i4,i5,i6⟩:=H4.out
  have tt:tabsN (pgs (lfSet b.lf t (some ⟨v.f,pw,pu,px⟩)))=tabsN (pgs b.lf)+fresh (pgs b.lf) t:=(tabs_perm (pgs_more (M4.out.rt b mb).pw h7 hS.rt.pw)).trans rfl
  have gg: ∀ g,p'=some ⟨g,0,none⟩->0<L'.length->w2.heap.size<=g/\g<u4.heap.size:=fun g eg hl=>by
   obtain ⟨g',e',l1,l2,_⟩:=i6 0 hl
   rw [e'] at eg
   have:g'=g:=by cases eg;rfl
   omega
  have ws:=H2.out.1.size
  refine ⟨M4.out.swap.tabs hK2 hS.pu hS.rt hA (fun p1 v1 e=> ?_),?_,hq2,?_,?_,fun g eg hl=> ?_,i5⟩
  . have dd: ∀ x∈a::b::B,∀ p v,x.lf p=some v->m.has v.f=true/\ ∃ f:Nat,v.f=f/\s2.G f=some 0/\ ¬ s2.Fr f/\(∀ l x,tab2 l x≠some f)/\ ∀ y∈a::B,∀ l x,y.tab l x≠some f:=fun x hx p v e=>by
     obtain ⟨d1,g,d2,d3,d4,d5⟩:=M4.out.dat x hx p v e
     obtain ⟨k1,k2,_⟩:=hA.oth g (d5 b mb) d4
     refine ⟨d1,g,d2,by rw [k1];exact d3,k2,fun l i e'=> ?_,fun y hy=>d5 y (by rcases List.mem_cons.1 hy with q | q;rw [q];exact ma;exact List.mem_cons_of_mem _ (List.mem_cons_of_mem _ q))⟩
     rcases hA.new l i g e' with q | q
     . exact d5 b mb l i q
     . exact d4 q
    unfold lfSet at e
    by_cases c:p1=t
    . rw [if_pos c] at e
      cases e
      exact dd a ma p v h3
    . rw [if_neg c] at e
      exact dd b mb p1 v1 e
  . have q:=hS.nm
    rw [tt,<- htb] at q
    rw [show ro-(fresh (pgs b.lf) t:Int)=R-((tb+fresh (pgs b.lf) t:Nat):Int) by omega,show u+(fresh (pgs b.lf) t:Int)=UU+((tb+fresh (pgs b.lf) t:Nat):Int) by omega,show fr-fresh (pgs b.lf) t=F-(tb+fresh (pgs b.lf) t) by omega]
    exact q
  . exact Kept.trans (kept_of_below i1 (fun j hj=>HM.out.pu.lt j (Or.inl hj))) (hK2.sub (fun j hj=>Or.inl (Or.inl hj)))
  . refine list_block (i6.weak (Nat.zero_le _)) hK2.size fun g eg lg hl=> ?_
    have q:=gg g eg hl
    exact hK2.block g (Or.inl (Or.inr ⟨by omega,q.2⟩))
  . have q:=gg g eg hl
    exact ⟨Or.inr ⟨by omega,q.2⟩,fun y=>by have:=HM.out.pu.lt g (Or.inl y);omega⟩
 clear E6 KC htb hR hU hFF RR H2 H4 M4 PC
 have sb6:=(M6.out.1.sp _ (List.mem_cons_self ..)).blk
 have c2:u6.cell? ⟨b.sb,2,none⟩=some (.slice b.rp b.L.length b.rc):=sb6.cell 2
 have z2:u6.frozen? ⟨b.sb,2,none⟩=false:=sb6.free 2
 have M7:Hid (∃ O',Mc Y O' n (u6.setCell ⟨b.sb,2,none⟩ (.slice p' L'.length c')) M m s2 T S (a::{ b with tab:=tab2,lf:=(lfSet b.lf t (some ⟨v.f,pw,pu,px⟩)),rp:=p',rc:=c',L:=L' }::B)/\Kx Y W (u6.setCell ⟨b.sb,2,none⟩ (.slice p' L'.length c'))):=by
  obtain ⟨q1,q2,q3,q4,q5,q6,q7⟩:=M6.out
  obtain ⟨O',k1,k2⟩:=q1.adopt Y (fun j hj=>Or.inl hj) HM.out.y0 q5 q6 q7 HH.out.2.2.2.2.2.1
  exact ⟨O',k1.swap,q4.trans (k2.sub (fun j hj=>Or.inl hj))⟩
 clear sb6
 go_upto_region 15 with fail
 generalize (u6.setCell ⟨b.sb,2,none⟩ (.slice p' L'.length c'))=u7 at M7 |-
 obtain ⟨O7,hM7,hK7⟩:=M7.out
 have M8:Hid (Mc Y O7 n u7 M m s2 T S (a::{ b with tab:=tab2,lf:=(lfSet b.lf t (some ⟨v.f,pw,pu,px⟩)),rp:=p',rc:=c',L:=L' }::B)/\Kx Y W u7):=⟨hM7,hK7⟩
 obtain ⟨cm,hcm⟩:=(hM7.sp a (List.mem_cons_self ..)).map
 have lk:(Instr.lookup 110 (.map (some a.lb)) (.int .i64 p) false).run Tryz.prog u7=.ok (.int .i64 z) u7:=by
  have q:=look1 hcm (k:=(p:Int)) (wf64 (by omega) (by have:=HH.out.1;omega))
  rw [HH.out.2.2.2.1] at q;exact q
 have zw:IntKind.i64.wrap (z+1)=z+1:=by have:=HH.out.2.2.2.2.1;simp only [IntKind.wrap_i64];omega
 obtain ⟨u8,hset,hm8,hg8⟩:=hcm.set (k:=(p:Int)) (v:=z+1) (by have:=HH.out.2.2.2.2.2.2.2.2.2.2.2;unfold maxLen;omega) (wf64 (by omega) (by have:=HH.out.1;omega)) (wf64 (by have:=HH.out.2.2.2.2.1;omega) (by have:=HH.out.2.2.2.2.1;omega))
 have hset:(Instr.mapUpdate 110 (.map (some a.lb)) (.int .i64 p) (.int .i64 (z+1))).run Tryz.prog u7=.ok () u8:=hset
 have HE:Hid (Lent Y n W u8 M m s T S a b B p t v z pw pu px L' ro u fr):=by
  obtain ⟨q1,q2⟩:=M8.out.1.lent hg8 ⟨_,hm8⟩
  obtain ⟨_,n2,n3,_⟩:=M6.out
  exact ⟨O7,s2,tab2,p',c',q1,n2,n3,M8.out.2.trans q2⟩
 have c3:u7.cell? ⟨a.sb,3,none⟩=some (.map (some a.lb)):=(hM7.sp a (List.mem_cons_self ..)).blk.cell 3
 clear hcm hm8 hg8 hM7 hK7 M7 M8 M6 HM HH c2 z2
 go_wp2_with fail
 go_returns
 exact ⟨rfl,HE.out⟩
end Go.Proofs.YtmabmknmnkhhbaaGreatDoor.Sp
namespace Go.Proofs.YtmabmknmnkhhbaaGreatDoor.Sp
open Go.ChangeShapes Go.WideShapes Go.ChangeAt Go.RowKit Go.Maps
open Go.Proofs.YtmabmknmnkhhbaaGreatDoor.Tt
set_option linter.unusedSimpArgs false
set_option linter.unusedVariables false
set_option maxRecDepth 8000
abbrev lf1 (p:Nat) (o:Option Lf):Nat->Option Lf:=lfSet (fun _=>none) p o
theorem lf1_none (p:Nat):lf1 p none=fun _=>none:=by
 funext x
 by_cases c:x=p
 . rw [c];exact lf_same ..
 . exact lf_other c
theorem lf1_set (p:Nat) (o o':Option Lf):lfSet (lf1 p o) p o'=lf1 p o':=by
 funext x
 show lfSet (lfSet (fun _=>none) p o) p o' x=lfSet (fun _=>none) p o' x
 by_cases c:x=p
 . rw [c,lf_same,lf_same]
 . rw [lf_other c,lf_other c,lf_other c]
theorem lf1_at (p:Nat) (o:Option Lf):lf1 p o p=o:=lf_same ..
abbrev lt1 (p:Nat) (l:Option Int):Int->Option Int:=Pc.setF Pc.noneF (p:Nat) l
theorem lt1_none (p:Nat):lt1 p none=Pc.noneF:=by
 funext x
 by_cases c:x=(p:Nat)
 . rw [c];exact Pc.set_same ..
 . exact Pc.set_other _ _ _ _ c
theorem lt1_set (p:Nat) (l l':Option Int):Pc.setF (lt1 p l) (p:Nat) l'=lt1 p l':=by
 funext x
 show Pc.setF (Pc.setF Pc.noneF (p:Nat) l) (p:Nat) l' x=Pc.setF Pc.noneF (p:Nat) l' x
 by_cases c:x=(p:Nat)
 . rw [c,Pc.set_same,Pc.set_same]
 . rw [Pc.set_other _ _ _ _ c,Pc.set_other _ _ _ _ c,Pc.set_other _ _ _ _ c]
theorem add_first1 (f t:Int) (pa pb pc:Bool) (h0:0<=f) (h1:f<t) (h2:t<=34359738368) (h3:t-f<=65536):Re.errA (Re.addN [] ⟨f,t,pa,pb,pc,1⟩) (Re.addL [] ⟨f,t,pa,pb,pc,1⟩)=0/\Re.addL [] ⟨f,t,pa,pb,pc,1⟩=[⟨f,t,pa,pb,pc,1⟩]:=by
 have e:Re.addL [] ⟨f,t,pa,pb,pc,1⟩=[⟨f,t,pa,pb,pc,1⟩]:=by
  show Re.withL [] ⟨f,t,pa,pb,pc,1⟩=_
  unfold Re.withL
  rw [if_neg (by show ¬ t<=f;omega),if_neg (by simp)]
  rfl
 refine ⟨?_,e⟩
 rw [e]
 have c:Re.checkN [] f t=0:=by
  unfold Re.checkN
  rw [if_pos (by unfold Re.rightB;simp;omega),if_pos (show Re.goodB []=true from rfl)]
 unfold Re.errA Re.addN
 simp only
 rw [c,if_pos rfl]
 rfl
theorem two_wf:(Lit.int .i64 2).wf=true:=by decide
theorem Nums.to {m:Pm} {s:Ps} {k:Nat} {r u r' u':Int} {f f':Nat} (h:Nums m s k r u f) (e1:r=r') (e2:u=u') (e3:f=f'):Nums m s k r' u' f':=by rw [<- e1,<- e2,<- e3];exact h
theorem find_one (p:Nat) (pw:Bool) (k:Int):Re.findR [⟨(p:Nat),(p:Nat)+1,pw,true,false,k⟩] (p:Nat)=(⟨(p:Nat),(p:Nat)+1,pw,true,false,k⟩,true):=by
 unfold Re.findR;rw [if_pos (by show ((p:Nat):Int)<=(p:Nat)/\((p:Nat):Int)<(p:Nat)+1;omega)]
structure PA (a:Sr) (p:Nat) (pw:Bool) (o:Option Lf) (l:Option Int) (na:Nat):Prop where
 id:a.id=1
 k:a.k=0
 L:a.L=[⟨(p:Nat),(p:Nat)+1,pw,true,false,0⟩]
 lf:a.lf=lf1 p o
 lt:a.lt=lt1 p l
 tb:tabsN (pgs a.lf)=na
structure PB (b:Sr) (t:Nat) (o:Option Lf) (L:List Re.Rg) (nb:Nat):Prop where
 id:b.id=2
 k:b.k=0
 L:b.L=L
 lf:b.lf=lf1 t o
 lt:b.lt=Pc.noneF
 tb:tabsN (pgs b.lf)=nb
def Lw (w:World) (B0 B1 F:Nat) (W:World) (M:Mb) (m:Pm) (p t:Nat) (pw:Bool) (o:Option Lf) (l:Option Int) (ob:Option Lf) (LB:List Re.Rg) (na nb x Q:Nat):Prop :=
 ∃ O s a b,Mc (fun j=>j<w.heap.size\/(B0<=j/\j<B1)) O 2 W M m s Tl.T0 (Pc.freshS 3) [a,b]/\PA a p pw o l na/\PB b t ob LB nb/\(a.ln<=Q/\b.ln<=Q)/\Nums m s 0 ((F:Int)-x) ((x:Int)-1) (F-x)/\s.q<=Q/\Kept (fun j=>j<w.heap.size) w W
def Lo (w:World) (B0 B1 F:Nat) (W:World) (M:Mb) (m:Pm) (n x Q:Nat) (A:List Sr->Prop):Prop :=
 ∃ O s L,Mc (fun j=>j<w.heap.size\/(B0<=j/\j<B1)) O n W M m s Tl.T0 (Pc.freshS 3) L/\A L/\Nums m s 0 ((F:Int)-x) ((x:Int)-1) (F-x)/\s.q<=Q/\Kept (fun j=>j<w.heap.size) w W
theorem Lw.below {w:World} {B0 B1 F:Nat} {W:World} {M:Mb} {m:Pm} {p t:Nat} {pw:Bool} {o:Option Lf} {l:Option Int} {ob:Option Lf} {LB:List Re.Rg} {na nb x Q:Nat} (h:Lw w B0 B1 F W M m p t pw o l ob LB na nb x Q) {W':World} (hb:Below W.heap.size W W'):Lw w B0 B1 F W' M m p t pw o l ob LB na nb x Q:=by
 obtain ⟨O,s,a,b,h1,h2,h3,hl,h4,h5,h6⟩:=h
 exact ⟨O,s,a,b,h1.below hb,h2,h3,hl,h4,h5,h6.trans (kept_of_below hb (fun j hj=>h1.pu.lt j (Or.inl (Or.inl hj))))⟩
theorem Lw.tab {w:World} {B0 B1 F:Nat} {W:World} {M:Mb} {m:Pm} {p t:Nat} {pw:Bool} {o:Option Lf} {l:Option Int} {ob:Option Lf} {LB:List Re.Rg} {na nb x Q:Nat} (h:Lw w B0 B1 F W M m p t pw o l ob LB na nb x Q):Tab W:=by
 obtain ⟨O,s,a,b,h1,_⟩:=h
 exact h1.pu.tab
theorem Lw.bel {w:World} {B0 B1 F:Nat} {W:World} {M:Mb} {m:Pm} {p t:Nat} {pw:Bool} {o:Option Lf} {l:Option Int} {ob:Option Lf} {LB:List Re.Rg} {na nb x Q:Nat} (h:Lw w B0 B1 F W M m p t pw o l ob LB na nb x Q):Below w.heap.size w W:=by
 obtain ⟨O,s,a,b,h1,h2,h3,hl,h4,h5,h6⟩:=h
 exact below_of_kept h6
theorem Lo.free {w:World} {B0 B1 F:Nat} {W:World} {M:Mb} {m:Pm} {n x Q:Nat} {A:List Sr->Prop} (h:Lo w B0 B1 F W M m n x Q A):Calls Tryz.prog 11 #[pp m.b] W fun e w'=>e=.returned (.int .i64 (F-x:Nat))/\w'=W:=by
 obtain ⟨O,s,a,h1,h2,h4,h5,h6⟩:=h
 have q:=h1.pu.free
 rw [h4.free] at q;exact q
theorem Lo.bel {w:World} {B0 B1 F:Nat} {W:World} {M:Mb} {m:Pm} {n x Q:Nat} {A:List Sr->Prop} (h:Lo w B0 B1 F W M m n x Q A):Below w.heap.size w W:=by
 obtain ⟨O,s,a,h1,h2,h4,h5,h6⟩:=h
 exact below_of_kept h6
theorem Lo.mac {w:World} {B0 B1 F:Nat} {W:World} {M:Mb} {m:Pm} {n x Q:Nat} {A:List Sr->Prop} (h:Lo w B0 B1 F W M m n x Q A):Blk W M.mb (M.cells m) 43:=by
 obtain ⟨O,s,a,h1,_⟩:=h
 exact h1.mac
theorem lw_open1 {w:World} {B0 B1 F:Nat} {W:World} {M:Mb} {m:Pm} (hF:30<=F/\F<=120) {w1:World} {s:Ps} (h:Booted (F:Nat) 3 w w1 M m s) (hb:Below w1.heap.size w1 W) :
 Calls Tryz.prog 16 #[pp M.mb,.int .i64 1,.int .i64 0] W fun e w'=>e=.returned (.int .i64 0)/\Lo w w1.heap.size W.heap.size F w' M m 1 4 6000 (fun L=> ∃ sb root lb,L=[sr0 1 0 sb 0 root lb])/\Kx (fun j=>j<w.heap.size\/(w1.heap.size<=j/\j<W.heap.size)) W w':=by
 obtain ⟨O,hM,hN,a1,a2,a3,hb0⟩:=h
 have q:=open_ok (hM.grow hb) 1 (by omega) (by omega) (by simp) 0 (by simp) 0 (hN.box (by omega)) (by omega) (by rw [hN.room];omega) (by omega)
 refine Calls.mono q ?_
 rintro e w' ⟨he,O',root,sb,lb,M2,fr,h1,h2⟩
 have nn:=hN.take hM.pu.so (L:=[root]) ⟨by simp,fun x hx=>by simp at hx;rw [hx];exact fr⟩ M2 (s.q+2)
 refine ⟨he,⟨O',_,_,h1,⟨sb,root,lb,rfl⟩,Nums.to nn (by simp only [List.length_singleton];omega) (by simp only [List.length_singleton];omega) (by simp only [List.length_singleton];omega),by show s.q+2<=6000;omega,?_⟩,h2⟩
 exact Kept.trans (kept_of_below (below_then hb0 hb) (fun j hj=>hj)) (h2.sub (fun j hj=>Or.inl hj))
theorem lw_open2 {w:World} {B0 B1 F:Nat} {W:World} {M:Mb} {m:Pm} (hF:30<=F/\F<=120) (h:Lo w B0 B1 F W M m 1 4 6000 (fun L=> ∃ sb root lb,L=[sr0 1 0 sb 0 root lb])) :
 Calls Tryz.prog 16 #[pp M.mb,.int .i64 2,.int .i64 0] W fun e w'=>e=.returned (.int .i64 0)/\Lo w B0 B1 F w' M m 2 5 6002 (fun L=> ∃ sb root lb sb2 root2 lb2,L=[sr0 2 1 sb2 0 root2 lb2,sr0 1 0 sb 0 root lb])/\Kx (fun j=>j<w.heap.size\/(B0<=j/\j<B1)) W w':=by
 obtain ⟨O,s,L,hM,⟨sb1,root1,lb1,rfl⟩,hN,hq,hK⟩:=h
 have q:=open_ok hM 2 (by omega) (by omega) (by simp) 1 (by simp) 0 (hN.box (by omega)) (by omega) (by rw [hN.room];omega) (by omega)
 refine Calls.mono q ?_
 rintro e w' ⟨he,O',root,sb,lb,M2,fr,h1,h2⟩
 have nn:=hN.take hM.pu.so (L:=[root]) ⟨by simp,fun x hx=>by simp at hx;rw [hx];exact fr⟩ M2 (s.q+2)
 exact ⟨he,⟨O',_,_,h1,⟨sb1,root1,lb1,sb,root,lb,rfl⟩,Nums.to nn (by simp only [List.length_singleton];omega) (by simp only [List.length_singleton];omega) (by simp only [List.length_singleton];omega),by show s.q+2<=6002;omega,hK.trans (h2.sub (fun j hj=>Or.inl hj))⟩,h2⟩
theorem lw_map {w:World} {B0 B1 F:Nat} {W:World} {M:Mb} {m:Pm} (p t:Nat) (hp:p<34359738368) (pw:Bool) (h:Lo w B0 B1 F W M m 2 5 6002 (fun L=> ∃ sb root lb sb2 root2 lb2,L=[sr0 2 1 sb2 0 root2 lb2,sr0 1 0 sb 0 root lb])) :
 Calls Tryz.prog 17 #[pp M.mb,.int .i64 1,.agg #[.int .i64 (p:Nat),.int .i64 ((p:Nat)+1)],.agg #[.bool pw,.bool true,.bool false]] W fun e w'=>e=.returned (.int .i64 0)/\Lw w B0 B1 F w' M m p t pw none none none [] 1 1 5 6002:=by
 obtain ⟨O,s,L,hM,⟨sb1,root1,lb1,sb2,root2,lb2,rfl⟩,hN,hq,hK⟩:=h
 obtain ⟨e1,e2⟩:=add_first (p:Nat) ((p:Nat)+1) pw true false (by omega) (by omega) (by omega) (by omega)
 have q:=map_ok hM.swap (p:Nat) ((p:Nat)+1) pw true false [⟨(p:Nat),(p:Nat)+1,pw,true,false,0⟩] e1 e2 (by simp) one_wf
 refine Calls.mono q ?_
 rintro e w' ⟨he,O',p',c',h1,h2⟩
 have e1:tabsN (pgs (fun _=>none))=1:=by rw [pgs_none];rfl
 exact ⟨he,O',s,_,_,h1,⟨rfl,rfl,rfl,(lf1_none p).symm,(lt1_none p).symm,e1⟩,⟨rfl,rfl,rfl,(lf1_none t).symm,rfl,e1⟩,⟨Nat.zero_le _,Nat.zero_le _⟩,hN,hq,hK.trans (h2.sub (fun j hj=>Or.inl hj))⟩
section
variable {w:World} {B0 B1 F:Nat} {W:World} {M:Mb} {m:Pm} {p t:Nat} {pw:Bool} {o:Option Lf} {l:Option Int} {ob:Option Lf} {LB:List Re.Rg} {na nb x Q:Nat} (h:Lw w B0 B1 F W M m p t pw o l ob LB na nb x Q)
include h
theorem lw_lend0 (hp:p<34359738368) (T:Int) (hl:l=none) (c1 c2 c3:Bool) :
 Calls Tryz.prog 18 #[pp M.mb,.int .i64 1,.int .i64 (p:Nat),.int .i64 2,.int .i64 T,.agg #[.bool c1,.bool c2,.bool c3]] W fun e w'=>e=.returned (.int .i64 5)/\Lw w B0 B1 F w' M m p t pw o l ob LB na nb x Q:=by
 have h0:=h
 obtain ⟨O,s,a,b,hM,ha,hb,hn,hN,hQ,hK⟩:=h0
 have q:=lend_no hM (by rw [ha.id,hb.id];decide) (by rw [ha.id];exact one_wf) (by rw [hb.id];exact two_wf) (p:Nat) T c1 c2 c3 5 (by decide) (fun w hw=>lendable_none (hM.below hw) (p:Nat) (wf64 (by omega) (by omega)) c1 c2 c3 (by rw [ha.lt,hl];exact Pc.set_same ..))
 rw [ha.id,hb.id] at q
 refine Calls.mono q ?_
 rintro e w' ⟨he,hb'⟩
 exact ⟨he,h.below hb'⟩
theorem lw_perm (hp:p<34359738368) (T:Int) (v:Int) (hl:l=some v) (hw:pw=false) :
 Calls Tryz.prog 18 #[pp M.mb,.int .i64 1,.int .i64 (p:Nat),.int .i64 2,.int .i64 T,.agg #[.bool true,.bool true,.bool false]] W fun e w'=>e=.returned (.int .i64 10)/\Lw w B0 B1 F w' M m p t pw o l ob LB na nb x Q:=by
 have h0:=h
 obtain ⟨O,s,a,b,hM,ha,hb,hn,hN,hQ,hK⟩:=h0
 have q:=lend_no hM (by rw [ha.id,hb.id];decide) (by rw [ha.id];exact one_wf) (by rw [hb.id];exact two_wf) (p:Nat) T true true false 10 (by decide) (fun w hw'=>by
  have r:=lendable_ok (hM.below hw') p (wf64 (by omega) (by omega)) true true false (z:=v) (by rw [ha.lt,hl];exact Pc.set_same ..) (p:Nat) ((p:Nat)+1) 0 pw true false true (by rw [ha.L];exact find_one p pw 0)
  rw [hw] at r;exact r)
 rw [ha.id,hb.id] at q
 refine Calls.mono q ?_
 rintro e w' ⟨he,hb'⟩
 exact ⟨he,h.below hb'⟩
theorem lw_touch (hp:p<34359738368) (ho:o=none) (hF:x+16<=F) (hq:Q<1000000) :
 Calls Tryz.prog 19 #[pp M.mb,.int .i64 1,.int .i64 (p:Nat),.agg #[.bool false,.bool true,.bool false]] W fun e w'=> ∃ f:Nat,e=.returned (.tuple #[.int .i64 f,.int .i64 0,.int .i64 0])/\Lw w B0 B1 F w' M m p t pw (some ⟨(f:Nat),pw,true,false⟩) (some 0) ob LB 4 nb (x+4) (Q+10):=by
 have h0:=h
 obtain ⟨O,s,a,b,hM,ha,hb,hn,hN,hQ,hK⟩:=h0
 have lf0:a.lf=fun _=>none:=by rw [ha.lf,ho];exact lf1_none p
 have r0:=hM.rt a (List.mem_cons_self ..)
 have fr:fresh (pgs a.lf) p=3:=by rw [lf0];exact fresh_none p
 have q:=touch_new hM p hp false true false (p:Nat) ((p:Nat)+1) 0 pw true false (by rw [ha.id];exact one_wf) (by rw [lf0]) (by rw [ha.L];exact find_one p pw 0) (by cases pw <;> rfl) (by rw [ha.k];exact hN) (by rw [fr];omega) (by omega) (by omega) (by omega)
 rw [ha.id] at q
 refine Calls.mono q ?_
 rintro e w' ⟨f,he,s',tab',hM',hN',hq',hf',hK'⟩
 refine ⟨f,he,O,s',_,b,hM',⟨ha.id,ha.k,ha.L,?_,?_,?_⟩,hb,⟨?_,by omega⟩,?_,by omega,hK.trans (hK'.sub (fun j hj=>Or.inl hj))⟩
 . show lfSet a.lf p _=lf1 p _;rw [lf0]
 . show Pc.setF a.lt (p:Nat) (some 0)=lt1 p (some 0);rw [ha.lt];exact lt1_set p l (some 0)
 . have r1:=hM'.rt _ (List.mem_cons_self ..)
   have tt:tabsN (pgs (lfSet a.lf p (some ⟨(f:Nat),pw,true,false⟩)))=tabsN (pgs a.lf)+fresh (pgs a.lf) p:=(tabs_perm (pgs_more r0.pw (by rw [lf0]) r1.pw)).trans rfl
   show tabsN (pgs (lfSet a.lf p (some ⟨(f:Nat),pw,true,false⟩)))=4
   rw [tt,fr,lf0,pgs_none];rfl
 . show a.ln+1<=Q+10;omega
 . rw [fr,ha.k] at hN'
   exact Nums.to hN' (by omega) (by omega) (by omega)
theorem lw_lend (hp:p<34359738368) (ht:t<34359738368) (f:Nat) (ho:o=some ⟨(f:Nat),pw,true,false⟩) (hl:l=some 0) (hob:ob=none) (hLB:LB=[]) (mo:Bool) (hm:mo=true->pw=true) (hF:x+14<=F) (hq:Q<1000000) :
 Calls Tryz.prog 18 #[pp M.mb,.int .i64 1,.int .i64 (p:Nat),.int .i64 2,.int .i64 (t:Nat),.agg #[.bool mo,.bool true,.bool false]] W fun e w'=>e=.returned (.int .i64 0)/\Lw w B0 B1 F w' M m p t pw o (some 1) (some ⟨(f:Nat),mo,true,false⟩) [⟨(t:Nat),(t:Nat)+1,mo,true,false,1⟩] na 4 (x+3) (Q+10):=by
 have h0:=h
 obtain ⟨O,s,a,b,hM,ha,hb,hn,hN,hQ,hK⟩:=h0
 have lf0:b.lf=fun _=>none:=by rw [hb.lf,hob];exact lf1_none t
 have r0:=hM.rt b (by simp)
 have fr:fresh (pgs b.lf) t=3:=by rw [lf0];exact fresh_none t
 obtain ⟨e1,e2⟩:=add_first1 (t:Nat) ((t:Nat)+1) mo true false (by omega) (by omega) (by omega) (by omega)
 have q:=lend_ok hM (by rw [ha.id,hb.id];decide) (by rw [ha.id];exact one_wf) (by rw [hb.id];exact two_wf) p t hp ht mo true false (fun w hw'=>by
  have r:=lendable_ok (hM.below hw') p (wf64 (by omega) (by omega)) mo true false (z:=0) (by rw [ha.lt,hl];exact Pc.set_same ..) (p:Nat) ((p:Nat)+1) 0 pw true false true (by rw [ha.L];exact find_one p pw 0)
  have e:((mo && !pw) || (false && !false))=false:=by cases mo <;> cases pw <;> simp_all
  rw [e] at r;exact r) ⟨(f:Nat),pw,true,false⟩ (by rw [ha.lf,ho];exact lf_same ..) 0 (by rw [ha.lt,hl];exact Pc.set_same ..) (by omega) (by omega) [⟨(t:Nat),(t:Nat)+1,mo,true,false,1⟩] (by rw [hb.L,hLB];exact e1) (by rw [hb.L,hLB];exact e2) (by simp) (by rw [lf0]) (by rw [hb.k];exact hN) (by rw [fr];omega) (by omega) (by omega) (by omega)
 rw [ha.id,hb.id] at q
 refine Calls.mono q ?_
 rintro e w' ⟨he,O',s',tab',p',c',hM',hN',hq',hK'⟩
 refine ⟨he,O',s',_,_,hM',⟨ha.id,ha.k,ha.L,ha.lf,?_,ha.tb⟩,⟨hb.id,hb.k,rfl,?_,hb.lt,?_⟩,⟨?_,by show b.ln<=Q+10;omega⟩,?_,by omega,hK.trans (hK'.sub (fun j hj=>Or.inl hj))⟩
 . show Pc.setF a.lt (p:Nat) (some (0+1))=lt1 p (some 1);rw [ha.lt];exact lt1_set p l (some 1)
 . show lfSet b.lf t _=lf1 t _;rw [lf0]
 . have r1:=hM'.rt _ (List.mem_cons_of_mem _ (List.mem_cons_self ..))
   have tt:tabsN (pgs (lfSet b.lf t (some ⟨(f:Nat),mo,true,false⟩)))=tabsN (pgs b.lf)+fresh (pgs b.lf) t:=(tabs_perm (pgs_more r0.pw (by rw [lf0]) r1.pw)).trans rfl
   show tabsN (pgs (lfSet b.lf t (some ⟨(f:Nat),mo,true,false⟩)))=4
   rw [tt,fr,lf0,pgs_none];rfl
 . show a.ln+1<=Q+10;omega
 . rw [fr,hb.k] at hN'
   exact Nums.to hN' (by omega) (by omega) (by omega)
theorem lw_touch2 (mo:Bool) (f:Nat) (hob:ob=some ⟨(f:Nat),mo,true,false⟩) (hLB:LB=[⟨(t:Nat),(t:Nat)+1,mo,true,false,1⟩]) :
 Calls Tryz.prog 19 #[pp M.mb,.int .i64 2,.int .i64 (t:Nat),.agg #[.bool false,.bool true,.bool false]] W fun e w'=>e=.returned (.tuple #[.int .i64 f,.int .i64 0,.int .i64 0])/\Lw w B0 B1 F w' M m p t pw o l ob LB na nb x Q:=by
 have h0:=h
 obtain ⟨O,s,a,b,hM,ha,hb,hn,hN,hQ,hK⟩:=h0
 have q:=touch_there hM.swap t false true false (t:Nat) ((t:Nat)+1) 1 (f:Nat) mo true false mo true false (by rw [hb.id];exact two_wf) (by rw [hb.lf,hob,lf1_at];rfl) (by rw [hb.L,hLB];exact find_one t mo 1) (by cases mo <;> rfl)
 rw [hb.id] at q
 exact Calls.mono q fun e w' ⟨he,hb'⟩=>⟨he,h.below hb'⟩
theorem lw_touch3 (hob:ob=none) (hLB:LB=[]) :
 Calls Tryz.prog 19 #[pp M.mb,.int .i64 2,.int .i64 (t:Nat),.agg #[.bool false,.bool true,.bool false]] W fun e w'=>e=.returned (.tuple #[.int .i64 0,.int .i64 4,.int .i64 9])/\Lw w B0 B1 F w' M m p t pw o l ob LB na nb x Q:=by
 have h0:=h
 obtain ⟨O,s,a,b,hM,ha,hb,hn,hN,hQ,hK⟩:=h0
 have q:=touch_none hM.swap t false true false 0 0 0 0 false false false false false false false (by rw [hb.id];exact two_wf) (by rw [hb.lf,hob,lf1_at];rfl) (by rw [hb.L,hLB];rfl)
 rw [hb.id] at q
 exact Calls.mono q fun e w' ⟨he,hb'⟩=>⟨he,h.below hb'⟩
theorem lw_touch4 (f:Nat) (ho:o=some ⟨(f:Nat),pw,true,false⟩) :
 Calls Tryz.prog 19 #[pp M.mb,.int .i64 1,.int .i64 (p:Nat),.agg #[.bool false,.bool true,.bool false]] W fun e w'=>e=.returned (.tuple #[.int .i64 f,.int .i64 0,.int .i64 0])/\Lw w B0 B1 F w' M m p t pw o l ob LB na nb x Q:=by
 have h0:=h
 obtain ⟨O,s,a,b,hM,ha,hb,hn,hN,hQ,hK⟩:=h0
 have q:=touch_there hM p false true false (p:Nat) ((p:Nat)+1) 0 (f:Nat) pw true false pw true false (by rw [ha.id];exact one_wf) (by rw [ha.lf,ho,lf1_at];rfl) (by rw [ha.L];exact find_one p pw 0) (by cases pw <;> rfl)
 rw [ha.id] at q
 exact Calls.mono q fun e w' ⟨he,hb'⟩=>⟨he,h.below hb'⟩
theorem lw_unmap1 (hp:p<34359738368) (hl:l=some 1) :
 Calls Tryz.prog 20 #[pp M.mb,.int .i64 1,.agg #[.int .i64 (p:Nat),.int .i64 ((p:Nat)+1)]] W fun e w'=>e=.returned (.int .i64 11)/\Lw w B0 B1 F w' M m p t pw o l ob LB na nb x Q:=by
 have h0:=h
 obtain ⟨O,s,a,b,hM,ha,hb,hn,hN,hQ,hK⟩:=h0
 have q:=unmap_lent hM (p:Nat) ((p:Nat)+1) 1 (by omega) pw true false p (by omega) (by omega) (by omega) (by omega) (by omega) ha.L (by rw [ha.lt,hl]) (by rw [ha.id];exact one_wf)
 rw [ha.id] at q
 exact Calls.mono q fun e w' ⟨he,hb'⟩=>⟨he,h.below hb'⟩
theorem lw_unmap2 (ht:t<34359738368) (mo:Bool) (hLB:LB=[⟨(t:Nat),(t:Nat)+1,mo,true,false,1⟩]) :
 Calls Tryz.prog 20 #[pp M.mb,.int .i64 2,.agg #[.int .i64 (t:Nat),.int .i64 ((t:Nat)+1)]] W fun e w'=>e=.returned (.int .i64 11)/\Lw w B0 B1 F w' M m p t pw o l ob LB na nb x Q:=by
 have h0:=h
 obtain ⟨O,s,a,b,hM,ha,hb,hn,hN,hQ,hK⟩:=h0
 have q:=unmap_borrowed hM.swap (t:Nat) ((t:Nat)+1) mo true false (by omega) (by omega) (by omega) (by omega) (by rw [hb.L,hLB]) hb.lt (by rw [hb.id];exact two_wf)
 rw [hb.id] at q
 exact Calls.mono q fun e w' ⟨he,hb'⟩=>⟨he,h.below hb'⟩
theorem lw_busy1 (hp:p<34359738368) (hl:l=some 1) (hq:Q<1000000) :
 Calls Tryz.prog 21 #[pp M.mb,.int .i64 1] W fun e w'=>e=.returned (.int .i64 11)/\Lw w B0 B1 F w' M m p t pw o l ob LB na nb x Q:=by
 have h0:=h
 obtain ⟨O,s,a,b,hM,ha,hb,hn,hN,hQ,hK⟩:=h0
 have q:=close_lent hM (by omega) (p:Nat) ((p:Nat)+1) 1 (by omega) p (by omega) pw true false ha.L (by rw [ha.lt,hl]) (by rw [ha.id];exact one_wf)
 rw [ha.id] at q
 exact Calls.mono q fun e w' ⟨he,hb'⟩=>⟨he,h.below hb'⟩
theorem lw_busy2 (ht:t<34359738368) (mo:Bool) (hLB:LB=[⟨(t:Nat),(t:Nat)+1,mo,true,false,1⟩]) (hq:Q<1000000) :
 Calls Tryz.prog 21 #[pp M.mb,.int .i64 2] W fun e w'=>e=.returned (.int .i64 11)/\Lw w B0 B1 F w' M m p t pw o l ob LB na nb x Q:=by
 have h0:=h
 obtain ⟨O,s,a,b,hM,ha,hb,hn,hN,hQ,hK⟩:=h0
 have q:=close_borrowed hM.swap (by omega) (t:Nat) ((t:Nat)+1) mo true false (by omega) (by omega) (by omega) (by rw [hb.L,hLB]) (by rw [hb.id];exact two_wf)
 rw [hb.id] at q
 exact Calls.mono q fun e w' ⟨he,hb'⟩=>⟨he,h.below hb'⟩
theorem lw_back (hp:p<34359738368) (ht:t<34359738368) (f:Nat) (mo:Bool) (ho:o=some ⟨(f:Nat),pw,true,false⟩) (hl:l=some 1) (hob:ob=some ⟨(f:Nat),mo,true,false⟩) (hLB:LB=[⟨(t:Nat),(t:Nat)+1,mo,true,false,1⟩]) (hnb:nb=4) (hx:x=12) (hF:30<=F) (hq:Q<1000000) :
 Calls Tryz.prog 22 #[pp M.mb,.int .i64 1,.int .i64 (p:Nat),.int .i64 2,.int .i64 (t:Nat)] W fun e w'=>e=.returned (.int .i64 0)/\Lw w B0 B1 F w' M m p t pw o (some 0) none [] na 1 9 (Q+10):=by
 have h0:=h
 obtain ⟨O,s,a,b,hM,ha,hb,hn,hN,hQ,hK⟩:=h0
 have tb:=hb.tb
 have e1:tabsN (pgs (lfSet b.lf t none))=1:=by rw [hb.lf,lf1_set,lf1_none,pgs_none];rfl
 have q:=back_ok hM (by rw [ha.id,hb.id];decide) (by rw [ha.id];exact one_wf) (by rw [hb.id];exact two_wf) p t hp ht 1 (by rw [ha.lt,hl];exact Pc.set_same ..) (by omega) (by omega) mo true false (by rw [hb.L,hLB]) ⟨(f:Nat),pw,true,false⟩ ⟨(f:Nat),mo,true,false⟩ (by rw [ha.lf,ho];exact lf_same ..) (by rw [hb.lf,hob];exact lf_same ..) rfl rfl (by rw [hb.k];exact hN) (by rw [tb];omega) (by omega) (by omega)
 rw [ha.id,hb.id] at q
 refine Calls.mono q ?_
 rintro e w' ⟨he,O',s',tab',hM',hN',hq',hK'⟩
 refine ⟨he,O',s',_,_,hM',⟨ha.id,ha.k,ha.L,ha.lf,?_,ha.tb⟩,⟨hb.id,hb.k,rfl,?_,hb.lt,e1⟩,⟨?_,by show b.ln<=Q+10;omega⟩,?_,by omega,hK.trans (hK'.sub (fun j hj=>Or.inl hj))⟩
 . show Pc.setF a.lt (p:Nat) (some (1-1))=lt1 p (some 0);rw [ha.lt];exact lt1_set p l (some 0)
 . show lfSet b.lf t none=lf1 t none;rw [hb.lf];exact lf1_set ..
 . show a.ln+1<=Q+10;omega
 . rw [e1,tb,hb.k] at hN'
   exact Nums.to hN' (by omega) (by omega) (by omega)
theorem lw_backno (hp:p<34359738368) (T:Int) (hl:l=some 0) :
 Calls Tryz.prog 22 #[pp M.mb,.int .i64 1,.int .i64 (p:Nat),.int .i64 2,.int .i64 T] W fun e w'=>e=.returned (.int .i64 5)/\Lw w B0 B1 F w' M m p t pw o l ob LB na nb x Q:=by
 have h0:=h
 obtain ⟨O,s,a,b,hM,ha,hb,hn,hN,hQ,hK⟩:=h0
 have q:=back_none hM (by rw [ha.id,hb.id];decide) (by rw [ha.id];exact one_wf) (by rw [hb.id];exact two_wf) p T hp 0 (by rw [ha.lt,hl];exact Pc.set_same ..) rfl
 rw [ha.id,hb.id] at q
 exact Calls.mono q fun e w' ⟨he,hb'⟩=>⟨he,h.below hb'⟩
theorem lw_close1 (hp:p<34359738368) (f:Nat) (ho:o=some ⟨(f:Nat),pw,true,false⟩) (hl:l=some 0) (hob:ob=none) (hLB:LB=[]) (hna:na=4) (hx:x=9) (hF:30<=F) (hq:Q<1000000) :
 Calls Tryz.prog 21 #[pp M.mb,.int .i64 1] W fun e w'=>e=.returned (.int .i64 0)/\Lo w B0 B1 F w' M m 2 4 (Q+10) (fun L=> ∃ b,L=[b]/\PB b t none [] nb/\b.ln<=Q):=by
 have h0:=h
 obtain ⟨O,s,a,b,hM,ha,hb,hn,hN,hQ,hK⟩:=h0
 have tb:=ha.tb
 have q:=close_one hM (by omega) (p:Nat) ((p:Nat)+1) p hp pw true false ha.L (by rw [ha.lt,hl]) (v:=⟨(f:Nat),pw,true,false⟩) (by rw [ha.lf,ho];exact lf_same ..) (fun y hy z=>by
  have e:y=b:=by simpa using hy
  rw [e,hb.lf,hob,lf1_none]) (fun z=>by rw [ha.lf,lf1_set,lf1_none]) (by rw [ha.k];exact hN) (by rw [tb];omega) (by rw [tb];omega) (by omega) (by rw [ha.id];exact one_wf) rfl
 rw [ha.id] at q
 refine Calls.mono q ?_
 rintro e w' ⟨he,s',hM',hN',hq',hK'⟩
 rw [tb,ha.k] at hN'
 rw [hob,hLB] at hb
 exact ⟨he,O,s',[b],hM',⟨b,rfl,hb,hn.2⟩,Nums.to hN' (by omega) (by omega) (by omega),by omega,hK.trans (hK'.sub (fun j hj=>Or.inl hj))⟩
omit h in
theorem lw_close2 (hF:30<=F) (hq:Q<1000000) (h:Lo w B0 B1 F W M m 2 4 Q (fun L=> ∃ b,L=[b]/\PB b t none [] nb/\b.ln<=Q)) :
 Calls Tryz.prog 21 #[pp M.mb,.int .i64 2] W fun e w'=>e=.returned (.int .i64 0)/\Lo w B0 B1 F w' M m 2 3 (Q+10) (fun L=>L=[]):=by
 obtain ⟨O,s,L,hM,⟨b,rfl,hb,hn⟩,hN,hQ,hK⟩:=h
 have q:=close_none hM (by omega) hb.L (fun z=>by rw [hb.lt];rfl) (fun z=>by rw [hb.lf,lf1_none]) (by rw [hb.k];exact hN) (by omega) (by rw [hb.id];exact two_wf) rfl
 rw [hb.id] at q
 refine Calls.mono q ?_
 rintro e w' ⟨he,s',hM',hN',hq',hK'⟩
 rw [hb.k] at hN'
 exact ⟨he,O,s',[],hM',rfl,Nums.to hN' (by omega) (by omega) (by omega),by omega,hK.trans (hK'.sub (fun j hj=>Or.inl hj))⟩
end
end Go.Proofs.YtmabmknmnkhhbaaGreatDoor.Sp
