import Derived.Test.YtmabmknmnkhhbaaGreatDoorKZl
import Derived.Test.YtmabmknmnkhhbaaGreatDoorSKl
namespace Go.Proofs.YtmabmknmnkhhbaaGreatDoor.Sp
open Go.ChangeShapes Go.WideShapes Go.ChangeAt Go.RowKit Go.Maps
open Go.Proofs.YtmabmknmnkhhbaaGreatDoor.Tt
set_option linter.unusedSimpArgs false
set_option linter.unusedVariables false
set_option maxRecDepth 8000
set_option maxHeartbeats 4000000 in
theorem unmap_lent {Y:Nat->Prop} {O:Nat->Nat} {n:Nat} {W:World} {M:Mb} {m:Pm} {s:Ps} {T:Nat->Tl.Ln} {S:Pc.Tg} {a:Sr} {B:List Sr} (h:Mc Y O n W M m s T S (a::B)) (f t z:Int) (hz:0<z) (gw gu gx:Bool) (p:Nat) (f0:0<=f) (fp:f<=(p:Int)) (pt:(p:Int)<t) (t1:t<=34359738368) (t2:t-f<=65536) (hL:a.L=[⟨f,t,gw,gu,gx,0⟩]) (hl:a.lt=Pc.setF Pc.noneF p (some z)) (wi:(Lit.int .i64 a.id).wf=true) :
 Calls Tryz.prog 20 #[pp M.mb,.int .i64 a.id,.agg #[.int .i64 f,.int .i64 t]] W fun e w'=>e=.returned (.int .i64 11)/\Below W.heap.size W w':=by
 have ma:=List.mem_cons_self (a:=a) (l:=B)
 obtain ⟨k1,k2⟩:=cut_whole f t gw gu gx f0 (by omega) t1 t2
 rw [<- hL] at k1 k2
 have CC:Hid (∀ w:World,Below (W.alloc (.cells #[.int .i64 f,.int .i64 t] 23)).heap.size (W.alloc (.cells #[.int .i64 f,.int .i64 t] 23)) w->Calls Tryz.prog 58 #[.slice a.rp a.L.length a.rc,.agg #[.int .i64 f,.int .i64 t]] w fun e w'=> ∃ p' c',e=.returned (.tuple #[.slice p' 0 c',.int .i64 0])/\Below w.heap.size w w'/\(∀ x,p'=some x-> ∃ g,x=⟨g,0,none⟩)):=fun w hb=>by
  refine (cut_new a.rp a.rc a.L (by rw [hL];simp) f t k1 [] k2 (by simp) w ((h.sp a ma).lis.below (below_then (Go.Joins.below_alloc1 _ _) hb))).mono ?_
  rintro e w' ⟨p',c',q1,q2,q3,_⟩
  exact ⟨p',c',q1,q2,q3⟩
 have LC:Hid (∀ w:World,Below W.heap.size W w->_):=fun w hb=>led_one (h.below hb) f t p z f0 fp pt t1 hl
 have BC:Hid (∀ w:World,Below W.heap.size W w->_):=fun w hb=>borrows_none (h.below hb) f t f t gw gu gx hL
 have NC:Hid (∀ (w:World) (g o c:Nat),Below W.heap.size W w->g<w.heap.size->w.cell? ⟨g,o,none⟩=some (.int .i64 p)->Calls Tryz.prog 61 #[pp a.sb,.slice (some ⟨g,o,none⟩) 1 c] w fun e w'=>e=.returned (.bool true)/\w'=w):=fun w g o c hb lg cg=>by
  have q:=lends_one (h.below hb) p z (by omega) (by omega) (by rw [hl];exact Pc.set_same _ _ _) g o c lg cg
  rw [decide_eq_true hz] at q;exact q
 have bb:Below W.heap.size W (W.alloc (.cells #[.int .i64 f,.int .i64 t] 23)):=Go.Joins.below_alloc1 _ _
 have lk:(Instr.lookup 41 (.map (some M.sm)) (.int .i64 a.id) false).run Tryz.prog (W.alloc (.cells #[.int .i64 f,.int .i64 t] 23))=.ok (.pointer (some ⟨a.sb,0,none⟩)) (W.alloc (.cells #[.int .i64 f,.int .i64 t] 23)):=by
  have q:=(h.below bb).map.look wi
  rw [spF_head] at q;exact q
 have HM:Hid (Mc Y O n W M m s T S (a::B)):=h
 have G0:Hid (Blk (W.alloc (.cells #[.int .i64 f,.int .i64 t] 23)) W.heap.size [.int .i64 f,.int .i64 t] 23/\Below W.heap.size W (W.alloc (.cells #[.int .i64 f,.int .i64 t] 23))):=⟨Blk.made _ _ _,bb⟩
 clear h f0 fp pt t1 t2 hL hl wi k1 k2 bb hz
 go_enter Tryz.func20,Tryz.ntmps20
 go_upto_region 1 with fail
 generalize (W.alloc (.cells #[.int .i64 f,.int .i64 t] 23))=W0 at G0 lk CC |-
 obtain ⟨q,hq⟩: ∃ q,q=W.heap.size:=⟨_,rfl⟩
 have G1:Hid (Blk W0 q [.int .i64 f,.int .i64 t] 23/\Below W.heap.size W W0):=by rw [hq];exact G0.out
 rw [<- hq]
 clear hq G0
 have c6:W0.cell? ⟨M.mb,6,none⟩=some (.map (some M.sm)):=(HM.out.below G1.out.2).mac.cell 6
 go_upto_region 4 with fail
 clear c6 lk
 have BS:Hid (Blk W0 a.sb [.int .i64 a.k,.int .i64 a.root,.slice a.rp a.L.length a.rc,.map (some a.lb)] 131/\Blk W0 q [.int .i64 f,.int .i64 t] 23):=⟨((HM.out.below G1.out.2).sp a ma).blk,G1.out.1⟩
 refine wp_region_noPanic ?_
 refine wp_region_held_drew (S:=fun cw=>Blk cw a.sb [.int .i64 a.k,.int .i64 a.root,.slice a.rp a.L.length a.rc,.map (some a.lb)] 131/\Blk cw q [.int .i64 f,.int .i64 t] 23) (by kernel_rfl) ?_ (fun hHeld=> ?_)
 . exact BS.out
 have KU:Hid (Below W0.heap.size W0 W0.drew):=below_drew (Below.refl _ _)
 clear BS
 generalize W0.drew=U at hHeld KU |-
 refine tk 0 20 ?_ rfl (Or.inl ⟨by rfl,?_⟩) ?_
 rotate_left
 . intro w hSw;(try dsimp only at hSw);go_simp;(try with_reducible rfl)
 try simp only [Act.put,z1,z2,z3]
 refine tk 1 21 ?_ rfl (Or.inl ⟨by rfl,?_⟩) ?_
 rotate_left
 . intro w hSw;(try dsimp only at hSw);go_simp;(try with_reducible rfl)
 try simp only [Act.put,z1,z2,z3]
 refine tk 2 22 ?_ rfl (Or.inl ⟨by rfl,?_⟩) ?_
 rotate_left
 . intro w hSw;(try dsimp only at hSw);go_simp;(try with_reducible rfl)
 try simp only [Act.put,z1,z2,z3]
 refine tk 3 23 (.slice a.rp a.L.length a.rc) rfl (Or.inl ⟨by rfl,?_⟩) ?_
 . intro w hSw;(try dsimp only at hSw);have r:=Blk.cell hSw.1 2;(try go_simp);(try simp [*])
 try simp only [Act.put,z1,z2,z3]
 refine tk 4 24 (.agg #[.int .i64 f,.int .i64 t]) rfl (Or.inl ⟨by rfl,?_⟩) ?_
 . intro w hSw;(try dsimp only at hSw);have r0:=Blk.cell hSw.2 0;have r1:=Blk.cell hSw.2 1;(try go_simp);(try simp [*])
 try simp only [Act.put,z1,z2,z3]
 refine wpAnyH_ready (rs:=[5]) (by kernel_rfl) (by simp) ?_
 refine AllReadyH.cons (o:=⟨some 25,_,_,_,_,none⟩) rfl (fun K hK=> ?_) AllReadyH.nil
 go_simp
 go_wp2_with (go_at_call 58;refine Calls.mono (CC.out _ KU.out) ?_;rintro e u1 ⟨p',c',rfl,hb1,hp1⟩)
 have KU1:Hid (Below W0.heap.size W0 u1):=below_then KU.out hb1
 have hp1x:Hid (∀ x,p'=some x-> ∃ g,x=⟨g,0,none⟩):=hp1
 refine hK.out _ _ ⟨hHeld.1.below hb1,hHeld.2.below hb1⟩ (fun hHeld2=> ?_)
 clear hK K hHeld hb1 hp1 KU
 have hHeld:=hHeld2
 clear hHeld2
 try simp only [Act.put,z1,z2,z3]
 refine tk 6 19 ?_ rfl (Or.inl ⟨by rfl,?_⟩) ?_
 rotate_left
 . intro w hSw;(try dsimp only at hSw);go_simp;(try with_reducible rfl)
 try simp only [Act.put,z1,z2,z3]
 refine tk 7 26 ?_ rfl (Or.inl ⟨by rfl,?_⟩) ?_
 rotate_left
 . intro w hSw;(try dsimp only at hSw);go_simp;(try with_reducible rfl)
 try simp only [Act.put,z1,z2,z3]
 refine tk 8 27 ?_ rfl (Or.inl ⟨by rfl,?_⟩) ?_
 rotate_left
 . intro w hSw;(try dsimp only at hSw);go_simp;(try with_reducible rfl)
 try simp only [Act.put,z1,z2,z3]
 refine tk 9 8 ?_ rfl (Or.inl ⟨by rfl,?_⟩) ?_
 rotate_left
 . intro w hSw;(try dsimp only at hSw);go_simp;(try with_reducible rfl)
 try simp only [Act.put,z1,z2,z3]
 refine tk 10 9 ?_ rfl (Or.inl ⟨by rfl,?_⟩) ?_
 rotate_left
 . intro w hSw;(try dsimp only at hSw);go_simp;(try with_reducible rfl)
 try simp only [Act.put,z1,z2,z3]
 clear hHeld
 refine wpAnyH_done (by kernel_rfl) ?_ _
 refine NoPanic.normal ?_
 have B1:Hid (Blk u1 q [.int .i64 f,.int .i64 t] 23/\Below W.heap.size W u1):=⟨G1.out.1.below KU1.out,below_then G1.out.2 KU1.out⟩
 clear KU1 G1 CC
 have x0:u1.cell? ⟨q,0,none⟩=some (.int .i64 f):=B1.out.1.cell 0
 have x1:u1.cell? ⟨q,1,none⟩=some (.int .i64 t):=B1.out.1.cell 1
 go_wp2_with fail
 refine Calls.mono (LC.out _ B1.out.2) ?_
 rintro e w2 ⟨vl,rfl,ho2,hb2⟩
 obtain ⟨g,og,cg,rfl,_,lg0,lg,cgp⟩:=oi_one ho2
 have B2:Hid (Blk w2 q [.int .i64 f,.int .i64 t] 23/\Below W.heap.size W w2/\W.heap.size<=g/\g<w2.heap.size/\w2.cell? ⟨g,og,none⟩=some (.int .i64 p)):=⟨B1.out.1.below hb2,below_then B1.out.2 hb2,by have:=B1.out.2.size;omega,lg,cgp⟩
 clear ho2 hb2 lg0 lg cgp x0 x1 B1 LC
 have x0:w2.cell? ⟨q,0,none⟩=some (.int .i64 f):=B2.out.1.cell 0
 have x1:w2.cell? ⟨q,1,none⟩=some (.int .i64 t):=B2.out.1.cell 1
 go_wp2_with fail
 refine Calls.mono (BC.out _ B2.out.2.1) ?_
 rintro e w3 ⟨rfl,hb3⟩
 have B3:Hid (Below W.heap.size W w3/\W.heap.size<=g/\g<w3.heap.size/\w3.cell? ⟨g,og,none⟩=some (.int .i64 p)):=⟨below_then B2.out.2.1 hb3,B2.out.2.2.1,Nat.lt_of_lt_of_le B2.out.2.2.2.1 hb3.size,(hb3.cell (p:=⟨g,og,none⟩) B2.out.2.2.2.1).trans B2.out.2.2.2.2⟩
 clear hb3 B2 BC x0 x1
 go_wp2_with fail
 refine Calls.mono (NC.out _ g og cg B3.out.1 B3.out.2.2.1 B3.out.2.2.2) ?_
 rintro e w4 ⟨rfl,hu⟩
 have hu2:=hu.symm
 subst hu2
 clear hu NC
 go_wp2_with fail
 go_returns
 exact ⟨rfl,B3.out.1⟩
end Go.Proofs.YtmabmknmnkhhbaaGreatDoor.Sp
namespace Go.Proofs.YtmabmknmnkhhbaaGreatDoor.Sp
open Go.ChangeShapes Go.WideShapes Go.ChangeAt Go.RowKit Go.Maps
open Go.Proofs.YtmabmknmnkhhbaaGreatDoor.Tt
set_option linter.unusedSimpArgs false
set_option linter.unusedVariables false
set_option maxRecDepth 8000
set_option maxHeartbeats 2000000 in
theorem alike_any {Y:Nat->Prop} {O:Nat->Nat} {n:Nat} {W:World} {M:Mb} {m:Pm} {s:Ps} {T:Nat->Tl.Ln} {S:Pc.Tg} {a b:Sr} {B:List Sr} (h:Mc Y O n W M m s T S (a::b::B)) (p t:Nat) (f g:Int) (aw au ax at' bw bu bx bt:Bool) (ha:lq (a.lf p)=(⟨f,aw,au,ax⟩,at')) (hb:lq (b.lf t)=(⟨g,bw,bu,bx⟩,bt)) :
 Calls Tryz.prog 68 #[pp M.mb,pp a.sb,.int .i64 p,pp b.sb,.int .i64 t] W fun e w'=>e=.returned (.bool (f==g))/\Below W.heap.size W w':=by
 have AC:Hid (∀ w:World,Below W.heap.size W w->Calls Tryz.prog 52 #[pp M.mb,pp a.sb,.int .i64 p] w fun e w'=>e=.returned (.tuple #[.int .i64 f,.agg #[.bool aw,.bool au,.bool ax],.bool at'])/\Below w.heap.size w w'):=fun w hw=>by
  have q:=leads_any (h.below hw) p
  rw [ha] at q;exact q
 have BC:Hid (∀ w:World,Below W.heap.size W w->Calls Tryz.prog 52 #[pp M.mb,pp b.sb,.int .i64 t] w fun e w'=>e=.returned (.tuple #[.int .i64 g,.agg #[.bool bw,.bool bu,.bool bx],.bool bt])/\Below w.heap.size w w'):=fun w hw=>by
  have q:=leads_any (h.swap.below hw) t
  rw [hb] at q;exact q
 clear h ha hb
 go_enter Tryz.func68,Tryz.ntmps68
 go_wp2_with fail
 refine Calls.mono (AC.out _ (Below.refl _ _)) ?_
 rintro e w1 ⟨rfl,hb1⟩
 have B1:Hid (Below W.heap.size W (w1.alloc (.cells #[.bool aw,.bool au,.bool ax] 58))):=below_then hb1 (Go.Joins.below_alloc1 _ _)
 clear hb1 AC
 go_upto_region 2 with fail
 generalize (w1.alloc (.cells #[.bool aw,.bool au,.bool ax] 58))=w2 at B1 |-
 go_wp2_with fail
 refine Calls.mono (BC.out _ B1.out) ?_
 rintro e w3 ⟨rfl,hb3⟩
 have B3:Hid (Below W.heap.size W (w3.alloc (.cells #[.bool bw,.bool bu,.bool bx] 58))):=below_then (below_then B1.out hb3) (Go.Joins.below_alloc1 _ _)
 clear hb3 BC B1
 go_upto_region 3 with fail
 generalize (w3.alloc (.cells #[.bool bw,.bool bu,.bool bx] 58))=w4 at B3 |-
 go_wp2_with fail
 go_returns
 exact ⟨rfl,B3.out⟩
end Go.Proofs.YtmabmknmnkhhbaaGreatDoor.Sp
namespace Go.Proofs.YtmabmknmnkhhbaaGreatDoor.Sp
open Go.ChangeShapes Go.WideShapes Go.ChangeAt Go.RowKit Go.Maps
open Go.Proofs.YtmabmknmnkhhbaaGreatDoor.Tt
set_option linter.unusedSimpArgs false
set_option linter.unusedVariables false
set_option maxRecDepth 8000
theorem isl_one {w:World} {b:Nat} {r:Re.Rg} (h:Blk w b r.enc 135):Re.IsL w 0 (some ⟨b,0,none⟩) [r]:=fun i hi=>by
 have i0:i=0:=by simp at hi;omega
 subst i0
 refine ⟨b,rfl,Nat.zero_le _,h.lt,fun j x hx=> ?_⟩
 rw [Nat.zero_mul,Nat.zero_add]
 exact (h.cell j).trans hx
set_option maxHeartbeats 2000000 in
theorem borrows_yes {Y:Nat->Prop} {O:Nat->Nat} {n:Nat} {W:World} {M:Mb} {m:Pm} {s:Ps} {T:Nat->Tl.Ln} {S:Pc.Tg} {a:Sr} {B:List Sr} (h:Mc Y O n W M m s T S (a::B)) (f t g1 g2:Int) (gw gu gx:Bool) (hL:a.L=[⟨g1,g2,gw,gu,gx,1⟩]) (n1: -2199023255552<=g1) (n2:g2<=2199023255552) (k1:g1<t) (k2:f<g2) (k3:f<t) (k4:g1<g2) :
 Calls Tryz.prog 60 #[pp a.sb,.agg #[.int .i64 f,.int .i64 t]] W fun e w'=>e=.returned (.bool true)/\Below W.heap.size W w':=by
 have ma:=List.mem_cons_self (a:=a) (l:=B)
 have bb:Below W.heap.size W (W.alloc (.cells #[.int .i64 f,.int .i64 t] 23)):=Go.Joins.below_alloc1 _ _
 have sa:=(h.below bb).sp a ma
 obtain ⟨g,hr,_,lg,cc⟩:=sa.lis 0 (by rw [hL];simp)
 rw [hL] at cc
 have y0:(W.alloc (.cells #[.int .i64 f,.int .i64 t] 23)).cell? ⟨g,0,none⟩=some (.int .i64 g1):=by have:=cc 0 _ rfl;simpa using this
 have y1:(W.alloc (.cells #[.int .i64 f,.int .i64 t] 23)).cell? ⟨g,1,none⟩=some (.int .i64 g2):=by have:=cc 1 _ rfl;simpa using this
 have y2:(W.alloc (.cells #[.int .i64 f,.int .i64 t] 23)).cell? ⟨g,2,none⟩=some (.bool gw):=by have:=cc 2 _ rfl;simpa using this
 have y3:(W.alloc (.cells #[.int .i64 f,.int .i64 t] 23)).cell? ⟨g,3,none⟩=some (.bool gu):=by have:=cc 3 _ rfl;simpa using this
 have y4:(W.alloc (.cells #[.int .i64 f,.int .i64 t] 23)).cell? ⟨g,4,none⟩=some (.bool gx):=by have:=cc 4 _ rfl;simpa using this
 have y5:(W.alloc (.cells #[.int .i64 f,.int .i64 t] 23)).cell? ⟨g,5,none⟩=some (.int .i64 1):=by have:=cc 5 _ rfl;simpa using this
 have c2:(W.alloc (.cells #[.int .i64 f,.int .i64 t] 23)).cell? ⟨a.sb,2,none⟩=some (.slice (some ⟨g,0,none⟩) 1 a.rc):=by
  have q:(W.alloc (.cells #[.int .i64 f,.int .i64 t] 23)).cell? ⟨a.sb,2,none⟩=some (.slice a.rp a.L.length a.rc):=sa.blk.cell 2
  rw [hr,hL] at q;exact q
 have c1:1<=a.rc:=by have:=sa.cap;rw [hL] at this;simpa using this
 have G0:Hid (Below W.heap.size W (W.alloc (.cells #[.int .i64 f,.int .i64 t] 23))/\Blk (W.alloc (.cells #[.int .i64 f,.int .i64 t] 23)) W.heap.size [.int .i64 f,.int .i64 t] 23):=⟨bb,Blk.made _ _ _⟩
 have CC:Hid (∀ (w:World) (b:Nat),Blk w b [.int .i64 g1,.int .i64 g2,.bool gw,.bool gu,.bool gx,.int .i64 1] 135->Calls Tryz.prog 101 #[.slice (some ⟨b,0,none⟩) 1 1,.agg #[.int .i64 f,.int .i64 t]] w fun e w'=> ∃ z:Int,e=.returned (.int .i64 z)/\decide (0<z)=true/\Below w.heap.size w w'):=fun w b hb=>by
  have nu:Re.NumL [⟨g1,g2,gw,gu,gx,1⟩]:=fun k hk=>by
   have k0:k=0:=by
    have:k<1:=hk
    omega
   subst k0
   exact ⟨n1,n2⟩
  have q:=Re.count_any 0 (some ⟨b,0,none⟩) 1 [⟨g1,g2,gw,gu,gx,1⟩] (by simp) nu f t w (isl_one hb)
  refine Calls.mono q ?_
  rintro e w' ⟨he,hw⟩
  refine ⟨_,he,decide_eq_true ?_,hw⟩
  show 0<Re.Rg.len ⟨g1,g2,gw,gu,gx,1⟩ f t+0
  unfold Re.Rg.len
  simp only
  rw [if_pos (by omega)]
  omega
 generalize a.rc=rc at c2 c1
 clear h sa cc hr hL bb n1 n2 k1 k2 k3 k4
 go_enter Tryz.func60,Tryz.ntmps60
 go_upto_region 1 with fail
 generalize (W.alloc (.cells #[.int .i64 f,.int .i64 t] 23))=W0 at *
 obtain ⟨q,hq⟩: ∃ q,q=W.heap.size:=⟨_,rfl⟩
 have G1:Hid (Below W.heap.size W W0/\Blk W0 q [.int .i64 f,.int .i64 t] 23):=by rw [hq];exact G0.out
 rw [<- hq]
 clear hq G0
 have s1:(W0.alloc (.cells #[.int .i64 g1,.int .i64 g2,.bool gw,.bool gu,.bool gx,.int .i64 1] 135)).heap.size=W0.heap.size+1:=World.size_alloc _ _
 have G2:Hid (Below W.heap.size W ((W0.alloc (.cells #[.int .i64 g1,.int .i64 g2,.bool gw,.bool gu,.bool gx,.int .i64 1] 135)).alloc (.cells #[.int .i64 g1,.int .i64 g2,.bool gw,.bool gu,.bool gx,.int .i64 1] 135))/\Blk ((W0.alloc (.cells #[.int .i64 g1,.int .i64 g2,.bool gw,.bool gu,.bool gx,.int .i64 1] 135)).alloc (.cells #[.int .i64 g1,.int .i64 g2,.bool gw,.bool gu,.bool gx,.int .i64 1] 135)) (W0.heap.size+1) [.int .i64 g1,.int .i64 g2,.bool gw,.bool gu,.bool gx,.int .i64 1] 135):=⟨below_then G1.out.1 (Go.Joins.below_alloc2 _ _ _),by rw [<- s1];exact Blk.made _ _ _⟩
 have x0:W0.cell? ⟨q,0,none⟩=some (.int .i64 f):=G1.out.2.cell 0
 have x1:W0.cell? ⟨q,1,none⟩=some (.int .i64 t):=G1.out.2.cell 1
 have ql:q<W0.heap.size:=G1.out.2.lt
 clear s1
 go_wp2_with fail
 refine wp_loop_rounds 3 ?_
 rw [rounds_succ]
 go_wp2_with fail
 refine Calls.mono (CC.out _ _ G2.out.2) ?_
 rintro e w3 ⟨z,rfl,hz,hb3⟩
 have HB:Hid (Below W.heap.size W w3):=below_then G2.out.1 hb3
 clear hb3 CC G1 G2
 go_wp2_with fail
 go_returns
 exact ⟨rfl,HB.out⟩
end Go.Proofs.YtmabmknmnkhhbaaGreatDoor.Sp
namespace Go.Proofs.YtmabmknmnkhhbaaGreatDoor.Sp
open Go.ChangeShapes Go.WideShapes Go.ChangeAt Go.RowKit Go.Maps
open Go.Proofs.YtmabmknmnkhhbaaGreatDoor.Tt
set_option linter.unusedSimpArgs false
set_option linter.unusedVariables false
set_option maxRecDepth 8000
theorem cut_whole1 (f t:Int) (w u x:Bool) (h0:0<=f) (h1:f<t) (h2:t<=34359738368) (h3:t-f<=65536):Re.checkN [⟨f,t,w,u,x,1⟩] f t=0/\Re.chg (fun _=>Re.Rg.zero) f t [⟨f,t,w,u,x,1⟩]=[]:=by
 refine ⟨?_,?_⟩
 . unfold Re.checkN
   rw [if_pos (by unfold Re.rightB;simp;omega),if_pos (by simp [Re.goodB,Re.allB,Re.okAt,Re.okR,Re.endAt,List.getD];exact ⟨⟨h0,h1,h2⟩,rfl⟩)]
 . have w0: ∀ (r:Re.Rg),r.tt<=r.fr->Re.withL [] r=[]:=fun r h=>by unfold Re.withL;rw [if_pos h]
   show Re.withL (Re.withL (Re.withL [] _) _) _=[]
   rw [w0 _ (show min t f<=f by omega),w0 _ (show (0:Int)<=0 by omega),w0 _ (show t<=max f t by omega)]
set_option maxHeartbeats 2000000 in
theorem led_none {Y:Nat->Prop} {O:Nat->Nat} {n:Nat} {W:World} {M:Mb} {m:Pm} {s:Ps} {T:Nat->Tl.Ln} {S:Pc.Tg} {a:Sr} {B:List Sr} (h:Mc Y O n W M m s T S (a::B)) (f t:Int) (f0:0<=f) (ft:f<=t) (t1:t<=34359738368) (hl:a.lt=Pc.noneF) :
 Calls Tryz.prog 59 #[pp a.sb,.agg #[.int .i64 f,.int .i64 t]] W fun e w'=>e=.returned (.slice none 0 0)/\Below W.heap.size W w':=by
 have ma:=List.mem_cons_self (a:=a) (l:=B)
 have LK:Hid (∀ (w:World) (x:Int),Below W.heap.size W w->0<=x->x<=34359738368->(Instr.lookup 110 (.map (some a.lb)) (.int .i64 x) true).run Tryz.prog w=.ok (.tuple #[.int .i64 0,.bool false]) w/\w.cell? ⟨a.sb,3,none⟩=some (.map (some a.lb))):=fun w x hb x0 x1=>by
  have q:=(h.below hb).sp a ma
  have r:=look_ok q.map (k:=x) (wf64 (by omega) (by omega))
  rw [hl] at r
  exact ⟨r,q.blk.cell 3⟩
 have G0:Hid (Blk (W.alloc (.cells #[.int .i64 f,.int .i64 t] 23)) W.heap.size [.int .i64 f,.int .i64 t] 23/\Below W.heap.size W (W.alloc (.cells #[.int .i64 f,.int .i64 t] 23))):=⟨Blk.made _ _ _,Go.Joins.below_alloc1 _ _⟩
 have HF:Hid (0<=f/\f<=t/\t<=34359738368):=⟨f0,ft,t1⟩
 clear h hl f0 ft t1
 go_enter Tryz.func59,Tryz.ntmps59
 go_upto_region 2 with fail
 generalize (W.alloc (.cells #[.int .i64 f,.int .i64 t] 23))=W0 at G0 |-
 obtain ⟨q,hq⟩: ∃ q,q=W.heap.size:=⟨_,rfl⟩
 have G1:Hid (Blk W0 q [.int .i64 f,.int .i64 t] 23/\Below W.heap.size W W0):=by rw [hq];exact ⟨G0.out.1,G0.out.2⟩
 rw [<- hq]
 clear hq G0
 have c0:W0.cell? ⟨q,0,none⟩=some (.int .i64 f):=G1.out.1.cell 0
 go_wp2_with fail
 go_loopw [5,6,7,8] (fun lv pv _ _ V=> ∃ x:Int,lv=.slice none 0 0/\pv=.int .i64 x/\Hid (f<=x/\x<=t)/\Hid (Below W0.heap.size W0 V)) (fun _ pv _ _ _=>(t-intOf pv).toNat)
 case atStart=>exact ⟨f,rfl,rfl,⟨Int.le_refl _,HF.out.2.1⟩,Below.refl _ _⟩
 case round =>
  clear c0
  obtain ⟨x,rfl,rfl,hx,ho⟩:=hrel
  have c1:wr.cell? ⟨q,1,none⟩=some (.int .i64 t):=(G1.out.1.below ho.out).cell 1
  by_cases ct:x<t
  rotate_left
  . have d1:decide (x<t)=false:=by simp;omega
    have HE:Hid (Below W.heap.size W wr):=below_then G1.out.2 ho.out
    clear ho hx ct
    go_wp2_with fail
    go_returns
    exact ⟨rfl,HE.out⟩
  . have d1:decide (x<t)=true:=by simp;omega
    obtain ⟨lk,c3⟩:=LK.out wr x (below_then G1.out.2 ho.out) (by have:=HF.out;have:=hx.out;omega) (by have:=HF.out;omega)
    have x1:IntKind.i64.wrap (x+1)=x+1:=by have:=HF.out;have:=hx.out;simp only [IntKind.wrap_i64];omega
    have HN:Hid ((f<=x+1/\x+1<=t)/\x<t):=⟨⟨by have:=hx.out;omega,by omega⟩,ct⟩
    clear hx ct LK
    go_wp2_with fail
    go_roundw
    case rel=>exact ⟨x+1,rfl,rfl,HN.out.1,ho⟩
    case measure=>have:=HN.out;show (t-(x+1)).toNat<(t-x).toNat;omega
set_option maxHeartbeats 4000000 in
theorem unmap_borrowed {Y:Nat->Prop} {O:Nat->Nat} {n:Nat} {W:World} {M:Mb} {m:Pm} {s:Ps} {T:Nat->Tl.Ln} {S:Pc.Tg} {a:Sr} {B:List Sr} (h:Mc Y O n W M m s T S (a::B)) (f t:Int) (gw gu gx:Bool) (f0:0<=f) (ft:f<t) (t1:t<=34359738368) (t2:t-f<=65536) (hL:a.L=[⟨f,t,gw,gu,gx,1⟩]) (hl:a.lt=Pc.noneF) (wi:(Lit.int .i64 a.id).wf=true) :
 Calls Tryz.prog 20 #[pp M.mb,.int .i64 a.id,.agg #[.int .i64 f,.int .i64 t]] W fun e w'=>e=.returned (.int .i64 11)/\Below W.heap.size W w':=by
 have ma:=List.mem_cons_self (a:=a) (l:=B)
 obtain ⟨k1,k2⟩:=cut_whole1 f t gw gu gx f0 ft t1 t2
 rw [<- hL] at k1 k2
 have CC:Hid (∀ w:World,Below (W.alloc (.cells #[.int .i64 f,.int .i64 t] 23)).heap.size (W.alloc (.cells #[.int .i64 f,.int .i64 t] 23)) w->Calls Tryz.prog 58 #[.slice a.rp a.L.length a.rc,.agg #[.int .i64 f,.int .i64 t]] w fun e w'=> ∃ p' c',e=.returned (.tuple #[.slice p' 0 c',.int .i64 0])/\Below w.heap.size w w'/\(∀ x,p'=some x-> ∃ g,x=⟨g,0,none⟩)):=fun w hb=>by
  refine (cut_new a.rp a.rc a.L (by rw [hL];simp) f t k1 [] k2 (by simp) w ((h.sp a ma).lis.below (below_then (Go.Joins.below_alloc1 _ _) hb))).mono ?_
  rintro e w' ⟨p',c',q1,q2,q3,_⟩
  exact ⟨p',c',q1,q2,q3⟩
 have LC:Hid (∀ w:World,Below W.heap.size W w->_):=fun w hb=>led_none (h.below hb) f t f0 (by omega) t1 hl
 have BC:Hid (∀ w:World,Below W.heap.size W w->_):=fun w hb=>borrows_yes (h.below hb) f t f t gw gu gx hL (by omega) (by omega) ft ft ft ft
 have bb:Below W.heap.size W (W.alloc (.cells #[.int .i64 f,.int .i64 t] 23)):=Go.Joins.below_alloc1 _ _
 have lk:(Instr.lookup 41 (.map (some M.sm)) (.int .i64 a.id) false).run Tryz.prog (W.alloc (.cells #[.int .i64 f,.int .i64 t] 23))=.ok (.pointer (some ⟨a.sb,0,none⟩)) (W.alloc (.cells #[.int .i64 f,.int .i64 t] 23)):=by
  have q:=(h.below bb).map.look wi
  rw [spF_head] at q;exact q
 have HM:Hid (Mc Y O n W M m s T S (a::B)):=h
 have G0:Hid (Blk (W.alloc (.cells #[.int .i64 f,.int .i64 t] 23)) W.heap.size [.int .i64 f,.int .i64 t] 23/\Below W.heap.size W (W.alloc (.cells #[.int .i64 f,.int .i64 t] 23))):=⟨Blk.made _ _ _,bb⟩
 clear h f0 ft t1 t2 hL hl wi k1 k2 bb
 go_enter Tryz.func20,Tryz.ntmps20
 go_upto_region 1 with fail
 generalize (W.alloc (.cells #[.int .i64 f,.int .i64 t] 23))=W0 at G0 lk CC |-
 obtain ⟨q,hq⟩: ∃ q,q=W.heap.size:=⟨_,rfl⟩
 have G1:Hid (Blk W0 q [.int .i64 f,.int .i64 t] 23/\Below W.heap.size W W0):=by rw [hq];exact G0.out
 rw [<- hq]
 clear hq G0
 have c6:W0.cell? ⟨M.mb,6,none⟩=some (.map (some M.sm)):=(HM.out.below G1.out.2).mac.cell 6
 go_upto_region 4 with fail
 clear c6 lk
 have BS:Hid (Blk W0 a.sb [.int .i64 a.k,.int .i64 a.root,.slice a.rp a.L.length a.rc,.map (some a.lb)] 131/\Blk W0 q [.int .i64 f,.int .i64 t] 23):=⟨((HM.out.below G1.out.2).sp a ma).blk,G1.out.1⟩
 refine wp_region_noPanic ?_
 refine wp_region_held_drew (S:=fun cw=>Blk cw a.sb [.int .i64 a.k,.int .i64 a.root,.slice a.rp a.L.length a.rc,.map (some a.lb)] 131/\Blk cw q [.int .i64 f,.int .i64 t] 23) (by kernel_rfl) ?_ (fun hHeld=> ?_)
 . exact BS.out
 have KU:Hid (Below W0.heap.size W0 W0.drew):=below_drew (Below.refl _ _)
 clear BS
 generalize W0.drew=U at hHeld KU |-
 refine tk 0 20 ?_ rfl (Or.inl ⟨by rfl,?_⟩) ?_
 rotate_left
 . intro w hSw;(try dsimp only at hSw);go_simp;(try with_reducible rfl)
 try simp only [Act.put,z1,z2,z3]
 refine tk 1 21 ?_ rfl (Or.inl ⟨by rfl,?_⟩) ?_
 rotate_left
 . intro w hSw;(try dsimp only at hSw);go_simp;(try with_reducible rfl)
 try simp only [Act.put,z1,z2,z3]
 refine tk 2 22 ?_ rfl (Or.inl ⟨by rfl,?_⟩) ?_
 rotate_left
 . intro w hSw;(try dsimp only at hSw);go_simp;(try with_reducible rfl)
 try simp only [Act.put,z1,z2,z3]
 refine tk 3 23 (.slice a.rp a.L.length a.rc) rfl (Or.inl ⟨by rfl,?_⟩) ?_
 . intro w hSw;(try dsimp only at hSw);have r:=Blk.cell hSw.1 2;(try go_simp);(try simp [*])
 try simp only [Act.put,z1,z2,z3]
 refine tk 4 24 (.agg #[.int .i64 f,.int .i64 t]) rfl (Or.inl ⟨by rfl,?_⟩) ?_
 . intro w hSw;(try dsimp only at hSw);have r0:=Blk.cell hSw.2 0;have r1:=Blk.cell hSw.2 1;(try go_simp);(try simp [*])
 try simp only [Act.put,z1,z2,z3]
 refine wpAnyH_ready (rs:=[5]) (by kernel_rfl) (by simp) ?_
 refine AllReadyH.cons (o:=⟨some 25,_,_,_,_,none⟩) rfl (fun K hK=> ?_) AllReadyH.nil
 go_simp
 go_wp2_with (go_at_call 58;refine Calls.mono (CC.out _ KU.out) ?_;rintro e u1 ⟨p',c',rfl,hb1,hp1⟩)
 have KU1:Hid (Below W0.heap.size W0 u1):=below_then KU.out hb1
 have hp1x:Hid (∀ x,p'=some x-> ∃ g,x=⟨g,0,none⟩):=hp1
 refine hK.out _ _ ⟨hHeld.1.below hb1,hHeld.2.below hb1⟩ (fun hHeld2=> ?_)
 clear hK K hHeld hb1 hp1 KU
 have hHeld:=hHeld2
 clear hHeld2
 try simp only [Act.put,z1,z2,z3]
 refine tk 6 19 ?_ rfl (Or.inl ⟨by rfl,?_⟩) ?_
 rotate_left
 . intro w hSw;(try dsimp only at hSw);go_simp;(try with_reducible rfl)
 try simp only [Act.put,z1,z2,z3]
 refine tk 7 26 ?_ rfl (Or.inl ⟨by rfl,?_⟩) ?_
 rotate_left
 . intro w hSw;(try dsimp only at hSw);go_simp;(try with_reducible rfl)
 try simp only [Act.put,z1,z2,z3]
 refine tk 8 27 ?_ rfl (Or.inl ⟨by rfl,?_⟩) ?_
 rotate_left
 . intro w hSw;(try dsimp only at hSw);go_simp;(try with_reducible rfl)
 try simp only [Act.put,z1,z2,z3]
 refine tk 9 8 ?_ rfl (Or.inl ⟨by rfl,?_⟩) ?_
 rotate_left
 . intro w hSw;(try dsimp only at hSw);go_simp;(try with_reducible rfl)
 try simp only [Act.put,z1,z2,z3]
 refine tk 10 9 ?_ rfl (Or.inl ⟨by rfl,?_⟩) ?_
 rotate_left
 . intro w hSw;(try dsimp only at hSw);go_simp;(try with_reducible rfl)
 try simp only [Act.put,z1,z2,z3]
 clear hHeld
 refine wpAnyH_done (by kernel_rfl) ?_ _
 refine NoPanic.normal ?_
 have B1:Hid (Blk u1 q [.int .i64 f,.int .i64 t] 23/\Below W.heap.size W u1):=⟨G1.out.1.below KU1.out,below_then G1.out.2 KU1.out⟩
 clear KU1 G1 CC
 have x0:u1.cell? ⟨q,0,none⟩=some (.int .i64 f):=B1.out.1.cell 0
 have x1:u1.cell? ⟨q,1,none⟩=some (.int .i64 t):=B1.out.1.cell 1
 go_wp2_with fail
 refine Calls.mono (LC.out _ B1.out.2) ?_
 rintro e w2 ⟨rfl,hb2⟩
 have B2:Hid (Blk w2 q [.int .i64 f,.int .i64 t] 23/\Below W.heap.size W w2):=⟨B1.out.1.below hb2,below_then B1.out.2 hb2⟩
 clear hb2 x0 x1 B1 LC
 have x0:w2.cell? ⟨q,0,none⟩=some (.int .i64 f):=B2.out.1.cell 0
 have x1:w2.cell? ⟨q,1,none⟩=some (.int .i64 t):=B2.out.1.cell 1
 go_wp2_with fail
 refine Calls.mono (BC.out _ B2.out.2) ?_
 rintro e w3 ⟨rfl,hb3⟩
 have HB:Hid (Below W.heap.size W w3):=below_then B2.out.2 hb3
 clear hb3 B2 BC x0 x1
 go_wp2_with fail
 go_returns
 exact ⟨rfl,HB.out⟩
end Go.Proofs.YtmabmknmnkhhbaaGreatDoor.Sp
