import Derived.Test.YtajfbieacfjhnaaGreatDoorKZc
import Derived.Test.YtajfbieacfjhnaaGreatDoorACc
import Derived.Test.YtajfbieacfjhnaaGreatDoorADc
import Derived.Test.YtajfbieacfjhnaaGreatDoorAEc
import Derived.Test.YtajfbieacfjhnaaGreatDoorSWc
import Derived.Test.YtajfbieacfjhnaaGreatDoorMPc
namespace Go.Proofs.YtajfbieacfjhnaaGreatDoor.Au
open Go.ChangeShapes Go.WideShapes Go.ChangeAt Go.RowKit Go.Maps
open Go.Proofs.YtajfbieacfjhnaaGreatDoor.Tt Go.Proofs.YtajfbieacfjhnaaGreatDoor.Sp
set_option linter.unusedSimpArgs false
set_option linter.unusedVariables false
set_option maxRecDepth 8000
theorem lt_of_cell {w:World} {a:Addr} {v:Value} (h:w.cell? a=some v):a.block<w.heap.size:=Classical.byContradiction fun c=>by
 unfold World.cell? at h
 rw [Array.getElem?_eq_none (by omega)] at h
 cases h
theorem kc_zero {L:List Us} (h: ∀ u∈L,u.2.1=0) (k:Int):kc k L=if k=0 then L.length else 0:=by
 unfold kc
 by_cases c:k=0
 . subst c
   rw [if_pos rfl,List.filter_eq_self.2 (fun u hu=>by simp [h u hu])]
 . rw [if_neg c,List.length_eq_zero_iff,List.filter_eq_nil_iff]
   intro u hu
   simp [h u hu];omega
theorem frames_fit {S U LF:List Us} {F:Nat->Prop} (hp:S.Perm U) (hs:S.Pairwise fun a b=>lexB b a=false) (un:U.Pairwise (fun x y=>x.1≠y.1)/\ ∀ u∈U,∀ i:Nat,F i->u.1≠i) (hU:Up LF) (hm: ∀ u,u∈LF↔ ∃ i:Nat,F i/\u=((i:Int),0,0)) :
 Up (mrg LF S)/\ ∀ k,kc k (mrg LF S)=(if k=0 then LF.length else 0)+kc k U:=by
 refine ⟨mrg_up S LF hU (up_of hs (ne_perm hp un.1)) (fun x hx y hy e=> ?_),fun k=> ?_⟩
 . obtain ⟨i,hi,rfl⟩:=(hm x).1 hx
   exact un.2 y (hp.mem_iff.1 hy) i hi e.symm
 . rw [kc_perm (mrg_perm S LF),kc_app,kc_perm hp,kc_zero (fun u hu=>by obtain ⟨i,_,rfl⟩:=(hm u).1 hu;rfl)]
theorem free_pu {X:Nat->Prop} {W:World} {m:Pm} {s:Ps} (h:Pu X W m s) (V:World) (hV:Below W.heap.size W V) :
 Calls Tryz.prog 23 #[pp m.b] V fun e w'=> ∃ (v:Value) (L:List Us),e=.returned v/\OU w' V.heap.size v L/\Up L/\(∀ u,u∈L↔ ∃ i:Nat,s.Fr i/\u=((i:Int),0,0))/\L.length=Bd.cnt s.Fr 1048576/\Below V.heap.size V w':=by
 have so:=h.so
 obtain ⟨K,Z,S,hp⟩:=h
 refine (free_frames (hp.bud.below hV) (fun i hi=>by have:=so.frb i hi;omega)).mono ?_
 rintro e w' ⟨v,L,he,h1,h2,h3,h4,_,h5⟩
 exact ⟨v,L,he,h1,h2,h3,h4,h5⟩
theorem one_key {L:List Int} {a:Sr} (ha:Bd.Asc L) (h: ∀ x,x∈L↔(spF [a] x).isSome=true):L=[a.id]:=by
 have m: ∀ x,x∈L↔x=a.id:=fun x=>by
  rw [h x]
  show (if x=a.id then some a.sb else spF [] x).isSome=true↔_
  by_cases c:x=a.id
  . rw [if_pos c];simp [c]
  . rw [if_neg c];simp [spF,c]
 cases L with
 | nil => exact absurd ((m a.id).2 rfl) List.not_mem_nil
 | cons x L =>
  have ex:=(m x).1 List.mem_cons_self
  cases L with
  | nil => rw [ex]
  | cons y L =>
   have ey:=(m y).1 (List.mem_cons_of_mem _ List.mem_cons_self)
   have:=(List.pairwise_cons.1 ha).1 y List.mem_cons_self
   omega
set_option maxHeartbeats 4000000 in
theorem frames_one {Y:Nat->Prop} {O:Nat->Nat} {n:Nat} {W:World} {M:Mb} {m:Pm} {s:Ps} {T:Nat->Tl.Ln} {S:Pc.Tg} {a:Sr} (h:Mc Y O n W M m s T S [a]) (hn:n<=1048600) (wi:(Lit.int .i64 a.id).wf=true) (hr: ∀ x,a.rp=some x-> ∃ g,x=⟨g,0,none⟩) {z:Nat} (kz:Kern s [a] M.kf z) (hkf:m.has (M.kf:Nat)=true) (hz:z<1048576) (own: ∀ (p:Nat) v,a.lf p=some v->(Re.findR a.L (p:Int)).2=true/\(Re.findR a.L (p:Int)).1.kd=0)
 (U:List Us) (hU:U=[((M.kf:Int),1,0),((z:Int),1,0)]++usA a.tab a.lf a.id 3 0 a.root) (nb:0<Bd.cnt s.Fr 1048576/\Bd.cnt s.Fr 1048576+U.length<=1000000) (un:U.Pairwise (fun x y=>x.1≠y.1)/\ ∀ u∈U,∀ i:Nat,s.Fr i->u.1≠i) :
 Calls Tryz.prog 8 #[pp M.mb] W fun e w'=> ∃ (v:Value) (R:List Us),e=.returned v/\OU w' W.heap.size v R/\Up R/\(∀ k,kc k R=(if k=0 then Bd.cnt s.Fr 1048576 else 0)+kc k U)/\Below W.heap.size W w':=by
 have cm:W.cell? ⟨M.mb,1,none⟩=some (pp m.b):=h.mac.cell 1
 have lm:M.mb<W.heap.size:=h.mac.lt
 have NU:Hid (U.length<=1048576):=by show _<=_;have:=nb.2;omega
 have NB:Hid (0<Bd.cnt s.Fr 1048576/\Bd.cnt s.Fr 1048576+U.length<=1000000):=nb
 have UN:Hid (U.Pairwise (fun x y=>x.1≠y.1)/\ ∀ u∈U,∀ i:Nat,s.Fr i->u.1≠i):=un
 have FC:Hid (∀ V,Below W.heap.size W V->_):=fun V hV=>free_pu h.pu V hV
 have SPC:Hid (∀ V,Below W.heap.size W V->_):=fun V hV=>spaces_any (h.below hV) hn
 obtain ⟨q,hq⟩: ∃ q,q=W.heap.size:=⟨_,rfl⟩
 have E0:Hid (LU W (fun _=>False) q [] (W.alloc (.cells #[.slice none 0 0] 22))):=by
  refine ⟨⟨.slice none 0 0,by rw [hq];exact Blk.made W [.slice none 0 0] 22,Bm.ol_none _ _ _ _ _,(fun e=>by cases e),fun j hj=>hj.elim⟩,Go.Joins.below_alloc1 _ _,by omega,fun j hj=>hj.elim⟩
 have KC:Hid (∀ (K:Nat->Prop) V,LU W K q [] V->_):=fun K V hV=>noteK_any h wi kz hkf hz hV (by simp)
 have NC:Hid (∀ (K:Nat->Prop) V,LU W K q ([]++[((M.kf:Int),1,0),((z:Int),1,0)]) V->_):=fun K V hV=>noteS_any h wi hr kz own hV (by
  have h2:=nb.2
  rw [hU,List.length_append] at h2
  rw [List.nil_append]
  omega)
 have HU:Hid (U=([]++[((M.kf:Int),1,0),((z:Int),1,0)])++usA a.tab a.lf a.id 3 0 a.root):=by rw [List.nil_append];exact hU
 clear h hn nb un S wi hr kz hkf hz own hU
 go_enter Tryz.func8,Tryz.ntmps8
 go_upto_region 2 with fail
 rw [<- hq]
 generalize (W.alloc (.cells #[.slice none 0 0] 22))=v1 at E0 |-
 clear hq
 go_wp2_with fail
 refine Calls.mono (SPC.out _ E0.out.bel) ?_
 rintro e v2 ⟨v,L,rfl,ha,hm,hrow,hb⟩
 obtain rfl:=one_key ha hm
 obtain ⟨p,c,hv,rd⟩:=ints_form hrow
 obtain ⟨g,rfl,l0,lg,rc⟩:=rd 0 (by simp)
 simp only [List.length_singleton] at hv
 subst hv
 have c0:v2.cell? ⟨g,0,none⟩=some (.int .i64 a.id):=rc
 obtain ⟨K1,hK1⟩: ∃ K1:Nat->Prop,K1=fun j=>False\/(v1.heap.size<=j/\j<v2.heap.size):=⟨_,rfl⟩
 have E1:Hid (LU W K1 q [] v2/\K1 g):=by
  refine ⟨?_,?_⟩
  . have r:=E0.out.grow hb
    rw [<- hK1] at r;exact r
  . rw [hK1];exact Or.inr ⟨l0,lg⟩
 clear hm ha hrow hb E0 SPC rd rc hK1 l0
 go_wp2_with fail
 refine Calls.mono (KC.out _ _ E1.out.1) ?_
 rintro e v3 ⟨rfl,h1,h2⟩
 have E2:Hid (LU W K1 q ([]++[((M.kf:Int),1,0),((z:Int),1,0)]) v3):=h1
 have c1:v3.cell? ⟨g,0,none⟩=some (.int .i64 a.id):=h2.cell E1.out.2 c0
 clear h1 h2 KC E1 c0 lg
 go_wp2_with fail
 refine wp_loop_rounds 2 ?_
 rw [rounds_succ]
 go_wp2_with fail
 refine Calls.mono (NC.out _ _ E2.out) ?_
 rintro e v4 ⟨rfl,h1,h2⟩
 have EL:Hid (LU W K1 q U v4):=by rw [HU.out];exact h1
 clear h1 h2 NC E2 c1 HU
 go_wp2_with fail
 rw [rounds_succ]
 go_upto_region 11 with fail
 obtain ⟨v,hbx,hou,hne,_⟩:=EL.out.box
 have hbl:=EL.out.bel
 have SC:Hid _:=sort_any W.heap.size v U NU.out v4 hou hbl.size
 have HB:Hid (Blk v4 q [v] 22/\v.ownBlock≠some q/\Below W.heap.size W v4):=⟨hbx,hne,hbl⟩
 have cq:v4.cell? ⟨q,0,none⟩=some v:=Blk.cell hbx 0
 clear hbx hou hne hbl EL
 go_wp2_with fail
 refine Calls.mono SC.out ?_
 rintro e z1 ⟨rfl,S,hp,hs,hS,hb,hg⟩
 have HS:Hid (S.Perm U/\(S.Pairwise fun a b=>lexB b a=false)/\UL z1 W.heap.size v S/\Below W.heap.size W z1):=⟨hp,hs,hS,HB.out.2.2.trans hb⟩
 have cq2:z1.cell? ⟨q,0,none⟩=some v:=(World.cell?_of_block (w:=v4) (a:=⟨q,0,none⟩) (hg.block q HB.out.1.lt (fun e=>HB.out.2.1 e.symm))).trans cq
 have lq:q<z1.heap.size:=Nat.lt_of_lt_of_le HB.out.1.lt hg.size
 have LM:Hid (M.mb<W.heap.size/\q<z1.heap.size):=⟨lm,lq⟩
 have SS:Hid (z1.cell? ⟨M.mb,1,none⟩=some (pp m.b)/\z1.cell? ⟨q,0,none⟩=some v):=⟨(World.cell?_of_block (w:=W) (a:=⟨M.mb,1,none⟩) (HS.out.2.2.2.block _ lm)).trans cm,cq2⟩
 clear hp hs hS hb hg SC HB cq cq2 lq
 go_upto_region 12 with fail
 refine wp_region_noPanic ?_
 refine wp_region_held_drew (S:=fun cw=>cw.cell? ⟨M.mb,1,none⟩=some (pp m.b)/\cw.cell? ⟨q,0,none⟩=some v) (by kernel_rfl) ?_ (fun hHeld=> ?_)
 . exact SS.out
 have Z2:Hid (UL z1.drew W.heap.size v S/\Below W.heap.size W z1.drew/\M.mb<z1.drew.heap.size/\q<z1.drew.heap.size):=⟨HS.out.2.2.1.below (Bm.below_drewN (m:=1) (Below.refl _ _)),Bm.below_drewN (m:=1) HS.out.2.2.2,Nat.lt_of_lt_of_le LM.out.1 HS.out.2.2.2.size,LM.out.2⟩
 clear SS
 generalize z1.drew=z2 at hHeld Z2 |-
 refine tk 0 33 ?_ rfl (Or.inl ⟨by rfl,?_⟩) ?_
 rotate_left
 . intro w hSw;(try dsimp only at hSw);go_simp;(try with_reducible rfl)
 try simp only [Act.put,List.setIfInBounds_toArray,List.set_cons_zero,List.set_cons_succ]
 refine tk 1 34 ?_ rfl (Or.inl ⟨by rfl,?_⟩) ?_
 rotate_left
 . intro w hSw;(try dsimp only at hSw);go_simp;(try with_reducible rfl)
 try simp only [Act.put,List.setIfInBounds_toArray,List.set_cons_zero,List.set_cons_succ]
 refine tk 2 35 ?_ rfl (Or.inl ⟨by rfl,?_⟩) ?_
 rotate_left
 . intro w hSw;(try dsimp only at hSw);go_simp;(try with_reducible rfl)
 try simp only [Act.put,List.setIfInBounds_toArray,List.set_cons_zero,List.set_cons_succ]
 refine tk 3 36 (pp m.b) rfl (Or.inl ⟨by rfl,?_⟩) ?_
 . intro w hSw;(try dsimp only at hSw);have r:=hSw.1;(try go_simp);(try simp [*])
 try simp only [Act.put,List.setIfInBounds_toArray,List.set_cons_zero,List.set_cons_succ]
 refine tk 5 38 v rfl (Or.inl ⟨by rfl,?_⟩) ?_
 . intro w hSw;(try dsimp only at hSw);have r:=hSw.2;(try go_simp);(try simp [*])
 try simp only [Act.put,List.setIfInBounds_toArray,List.set_cons_zero,List.set_cons_succ]
 refine wpAnyH_ready (rs:=[4]) (by kernel_rfl) (by simp) ?_
 refine AllReadyH.cons (o:=⟨some 37,_,_,_,_,none⟩) rfl (fun Kc hK=> ?_) AllReadyH.nil
 go_simp
 go_wp2_with (go_at_call 23;refine Calls.mono (FC.out _ Z2.out.2.1) ?_;rintro e z3 ⟨vf,LF,rfl,k1,k2,k3,k4,k5⟩)
 have Z3:Hid (UL z3 W.heap.size vf LF/\UL z3 W.heap.size v S/\Below W.heap.size W z3/\Up LF/\(∀ u,u∈LF↔ ∃ i:Nat,s.Fr i/\u=((i:Int),0,0))/\LF.length=Bd.cnt s.Fr 1048576):=⟨(Bm.ol_ll eU_len k1).low Z2.out.2.1.size,Z2.out.1.below k5,below_then Z2.out.2.1 k5,k2,k3,k4⟩
 refine hK.out _ _ ⟨(World.cell?_of_block (k5.block _ Z2.out.2.2.1)).trans hHeld.1,(World.cell?_of_block (k5.block _ Z2.out.2.2.2)).trans hHeld.2⟩ (fun hHeld2=> ?_)
 clear hK Kc hHeld FC k1 k2 k3 k4 k5
 have hHeld:=hHeld2
 clear hHeld2
 try simp only [Act.put,List.setIfInBounds_toArray,List.set_cons_zero,List.set_cons_succ]
 have FU:=frames_fit HS.out.1 HS.out.2.1 UN.out Z3.out.2.2.2.1 Z3.out.2.2.2.2.1
 have FU2:Hid _:=FU
 have LB:Hid (LF.length+S.length<=1000000):=by
  have h1:=Z3.out.2.2.2.2.2
  have h2:=HS.out.1.length_eq
  show _<=_
  rw [h1,h2];exact NB.out.2
 obtain ⟨pf,cf,hvf,hcf,hpf,rdf⟩:=Z3.out.1.form
 have LP:0<LF.length:=by rw [Z3.out.2.2.2.2.2];exact NB.out.1
 obtain ⟨gf,of_,hpf2,hdd⟩:=rdf 0 LP
 clear hdd
 obtain ⟨nF,hnF⟩: ∃ n,n=LF.length:=⟨_,rfl⟩
 rw [hpf2,<- hnF] at hvf
 subst hvf
 have MC:Hid _:=merge_any W.heap.size gf of_ nF cf v LF S z3 Z3.out.1 Z3.out.2.1 LB.out
 have HNF:Hid (nF=LF.length):=hnF
 clear hcf hpf rdf LP hpf2 hnF FU
 refine wpAnyH_ready (rs:=[6]) (by kernel_rfl) (by simp) ?_
 refine AllReadyH.cons (o:=⟨some 39,_,_,_,_,none⟩) rfl (fun Kc hK=> ?_) AllReadyH.nil
 go_simp
 go_wp2_with (go_at_call 22;refine Calls.mono (MC.out) ?_;rintro e z4 ⟨vr,rfl,k1,k2⟩)
 have Z4:Hid (OU z4 W.heap.size vr (mrg LF S)/\Below W.heap.size W z4):=⟨Bm.row_weak k1 Z3.out.2.2.1.size,below_then Z3.out.2.2.1 k2⟩
 have kx:z3.cell? ⟨M.mb,1,none⟩=some (pp m.b)/\z3.cell? ⟨q,0,none⟩=some v:=hHeld
 have lx:M.mb<z3.heap.size/\q<z3.heap.size:=⟨lt_of_cell kx.1,lt_of_cell kx.2⟩
 refine hK.out _ _ ⟨(World.cell?_of_block (k2.block _ lx.1)).trans kx.1,(World.cell?_of_block (k2.block _ lx.2)).trans kx.2⟩ (fun hHeld2=> ?_)
 clear hK Kc hHeld MC k1 k2 kx lx
 have hHeld:=hHeld2
 clear hHeld2
 try simp only [Act.put,List.setIfInBounds_toArray,List.set_cons_zero,List.set_cons_succ]
 refine tk 7 2 ?_ rfl (Or.inl ⟨by rfl,?_⟩) ?_
 rotate_left
 . intro w hSw;(try dsimp only at hSw);go_simp;(try with_reducible rfl)
 try simp only [Act.put,List.setIfInBounds_toArray,List.set_cons_zero,List.set_cons_succ]
 clear hHeld
 refine wpAnyH_done (by kernel_rfl) ?_ _
 refine NoPanic.normal ?_
 go_wp2_with fail
 go_returns
 exact ⟨vr,mrg LF S,rfl,Z4.out.1,FU2.out.1,fun k=>by rw [FU2.out.2 k,Z3.out.2.2.2.2.2],Z4.out.2⟩
set_option maxHeartbeats 4000000 in
theorem check_any {W:World} {mb b tb:Nat} (N ln:Nat) (cb:W.cell? ⟨mb,1,none⟩=some (pp b)) (ct:W.cell? ⟨mb,2,none⟩=some (pp tb)) (hN:N<=1000000)
 (FRC:Calls Tryz.prog 8 #[pp mb] W fun e w'=> ∃ (v:Value) (R:List Us),e=.returned v/\OU w' W.heap.size v R/\Up R/\R.length<=1000000/\(ln=0\/kc 1 R+kc 2 R+kc 3 R=N)/\Below W.heap.size W w')
 (SPC: ∀ V,Below W.heap.size W V->Calls Tryz.prog 17 #[pp mb] V fun e w'=> ∃ p c,e=.returned (.slice p ln c)/\Below V.heap.size V w')
 (GC: ∀ V,Below W.heap.size W V->Calls Tryz.prog 25 #[pp b] V fun e w'=>e=.returned (.int .i64 (N:Int))/\Below V.heap.size V w')
 (CC: ∀ V,Below W.heap.size W V->Calls Tryz.prog 26 #[pp tb] V fun e w'=>e=.returned (.int .i64 (N:Int))/\Below V.heap.size V w') :
 Calls Tryz.prog 9 #[pp mb] W fun e w'=>e=.returned (.int .i64 0)/\Below W.heap.size W w':=by
 have F1:Hid _:=FRC
 have S1:Hid (∀ V,_->_):=SPC
 have G1:Hid (∀ V,_->_):=GC
 have C1:Hid (∀ V,_->_):=CC
 have LM:Hid (mb<W.heap.size/\W.cell? ⟨mb,1,none⟩=some (pp b)/\W.cell? ⟨mb,2,none⟩=some (pp tb)):=⟨lt_of_cell cb,cb,ct⟩
 clear FRC SPC GC CC cb ct
 go_enter Tryz.func9,Tryz.ntmps9
 go_wp2_with fail
 refine Calls.mono F1.out ?_
 rintro e w1 ⟨v,R,rfl,h1,h2,h3,h4,h5⟩
 have HR:Hid (UL w1 W.heap.size v R/\Up R/\R.length<=1000000/\(ln=0\/kc 1 R+kc 2 R+kc 3 R=N)/\Below W.heap.size W w1):=⟨Bm.ol_ll eU_len h1,h2,h3,h4,h5⟩
 clear h1 h2 h3 h4 h5 F1
 go_wp2_with fail
 refine Calls.mono (twice_any W.heap.size v R HR.out.2.2.1 HR.out.2.1 w1 HR.out.1) ?_
 rintro e w2 ⟨rfl,hb⟩
 have B2:Hid (Below W.heap.size W w2/\UL w2 W.heap.size v R):=⟨below_then HR.out.2.2.2.2 hb,HR.out.1.below hb⟩
 have d1:w2.cell? ⟨mb,1,none⟩=some (pp b):=(World.cell?_of_block (B2.out.1.block mb LM.out.1)).trans LM.out.2.1
 clear hb
 go_wp2_with fail
 refine Calls.mono (G1.out _ B2.out.1) ?_
 rintro e w3 ⟨rfl,hb⟩
 have B3:Hid (Below W.heap.size W w3/\UL w3 W.heap.size v R):=⟨below_then B2.out.1 hb,B2.out.2.below hb⟩
 clear hb B2 d1 G1
 go_wp2_with fail
 refine Calls.mono (count_any W.heap.size v R HR.out.2.2.1 w3 B3.out.2) ?_
 rintro e w4 ⟨rfl,hb⟩
 have LK:Hid (∀ k,kc k R<=1000000):=fun k=>Nat.le_trans (kc_le _ _) HR.out.2.2.1
 obtain ⟨k0,e0⟩: ∃ k,k=kc 0 R:=⟨_,rfl⟩
 obtain ⟨k1,e1⟩: ∃ k,k=kc 1 R:=⟨_,rfl⟩
 obtain ⟨k2,e2⟩: ∃ k,k=kc 2 R:=⟨_,rfl⟩
 obtain ⟨k3,e3⟩: ∃ k,k=kc 3 R:=⟨_,rfl⟩
 have HK:Hid ((ln=0\/k1+k2+k3=N)/\k1<=1000000/\k2<=1000000/\k3<=1000000):=by
  rw [e1,e2,e3];exact ⟨HR.out.2.2.2.1,LK.out 1,LK.out 2,LK.out 3⟩
 rw [<- e0,<- e1,<- e2,<- e3]
 clear e0 e1 e2 e3 LK
 have B4:Hid (Below W.heap.size W (w4.alloc (.cells #[.int .i64 k0,.int .i64 k1,.int .i64 k2,.int .i64 k3] 23))/\Blk (w4.alloc (.cells #[.int .i64 k0,.int .i64 k1,.int .i64 k2,.int .i64 k3] 23)) w4.heap.size [.int .i64 k0,.int .i64 k1,.int .i64 k2,.int .i64 k3] 23):=⟨Bm.below_new (below_then B3.out.1 hb) _,Blk.made _ _ _⟩
 clear hb B3 HR
 go_upto_region 5 with fail
 generalize (w4.alloc (.cells #[.int .i64 k0,.int .i64 k1,.int .i64 k2,.int .i64 k3] 23))=w5 at B4 |-
 generalize w4.heap.size=q at B4 |-
 go_wp2_with fail
 refine Calls.mono (S1.out _ B4.out.1) ?_
 rintro e w6 ⟨p,c,rfl,hb⟩
 have B6:Hid (Below W.heap.size W w6):=below_then B4.out.1 hb
 have BB:=B4.out.2.below hb
 have x1:w6.cell? ⟨q,1,none⟩=some (.int .i64 k1):=BB.cell 1
 have x2:w6.cell? ⟨q,2,none⟩=some (.int .i64 k2):=BB.cell 2
 have x3:w6.cell? ⟨q,3,none⟩=some (.int .i64 k3):=BB.cell 3
 have d2:w6.cell? ⟨mb,2,none⟩=some (pp tb):=(World.cell?_of_block (B6.out.block mb LM.out.1)).trans LM.out.2.2
 clear hb B4 S1 BB
 have FIN:Hid (∀ V,Below W.heap.size W V->_):=fun V hV=>C1.out V hV
 have n1:((N:Int)==(N:Int))=true:=by simp
 have n2:((N:Int) != (N:Int))=false:=by simp
 by_cases cl:0<ln
 . have d3:decide ((0:Int)<(ln:Int))=true:=by simp;omega
   have ek:k1+k2+k3=N:=by have:=HK.out.1;omega
   have a1:IntKind.i64.wrap ((k1:Int)+(k2:Int))=(k1:Int)+(k2:Int):=by rw [IntKind.wrap_i64];have:=HK.out;omega
   have a2:IntKind.i64.wrap ((k1:Int)+(k2:Int)+(k3:Int))=(N:Int):=by rw [IntKind.wrap_i64];have:=HK.out;omega
   have d4:decide (0<ln)=true:=by simp;exact cl
   clear ek
   go_wp2_with fail
   refine Calls.mono (FIN.out _ B6.out) ?_
   rintro e w7 ⟨rfl,hb⟩
   have HE:Hid (Below W.heap.size W w7):=below_then B6.out hb
   clear hb B6 FIN C1 x1 x2 x3 d2
   go_wp2_with fail
   go_returns
   exact ⟨rfl,HE.out⟩
 . have d3:decide ((0:Int)<(ln:Int))=false:=by simp;omega
   have d4:decide (0<ln)=false:=by simp;omega
   go_wp2_with fail
   refine Calls.mono (FIN.out _ B6.out) ?_
   rintro e w7 ⟨rfl,hb⟩
   have HE:Hid (Below W.heap.size W w7):=below_then B6.out hb
   clear hb B6 FIN C1 x1 x2 x3 d2
   go_wp2_with fail
   go_returns
   exact ⟨rfl,HE.out⟩
end Go.Proofs.YtajfbieacfjhnaaGreatDoor.Au
namespace Go.Proofs.YtajfbieacfjhnaaGreatDoor.Au
open Go.ChangeShapes Go.WideShapes Go.ChangeAt Go.RowKit Go.Maps
open Go.Proofs.YtajfbieacfjhnaaGreatDoor.Tt Go.Proofs.YtajfbieacfjhnaaGreatDoor.Sp
set_option linter.unusedSimpArgs false
set_option linter.unusedVariables false
set_option maxRecDepth 8000
theorem given_cnt {m:Pm} {s:Ps} (P:Prt m s) (so:Sound m s) {G:Nat} (hG:1<=G) (hF:m.F=G) {f:Nat} (hf:Bd.cnt s.Fr 1048576=f):Bd.cnt (fun i:Nat=>(s.G i).isSome=true) 1048576+f=G-1:=by
 have b:=so.F1
 have e:(fun i:Nat=>s.Fr i\/(s.G i).isSome=true)=(fun i:Nat=>1<=i/\(i:Int)<(G:Int)):=by
  funext i;apply propext
  rw [P.all i,hF]
 have q:=Bd.cnt_or s.Fr (fun i:Nat=>(s.G i).isSome=true) (fun i h1 h2=>by rw [so.fg i h1] at h2;cases h2) 1048576
 rw [e,cnt_from G hG (by omega),hf] at q
 omega
theorem given_pu {X:Nat->Prop} {W:World} {m:Pm} {s:Ps} (h:Pu X W m s) (P:Prt m s) (V:World) (hV:Below W.heap.size W V) :
 Calls Tryz.prog 25 #[pp m.b] V fun e w'=>e=.returned (.int .i64 (Bd.cnt (fun i:Nat=>(s.G i).isSome=true) 1048576:Nat))/\Below V.heap.size V w':=by
 have so:=h.so
 obtain ⟨K,Z,S,hp⟩:=h
 exact given_any (hp.bud.below hV) (fun x hx=>by
  have q:=so.hb x (so.gh x hx)
  have:=so.F1
  exact ⟨P.one x hx,q.1,by omega⟩)
theorem charged_pu {X:Nat->Prop} {W:World} {m:Pm} {s:Ps} (h:Pu X W m s) (P:Prt m s) {r:Int} {u f:Nat} (hN:Nums m s 0 r (u:Nat) f) (hu:u<=1000000) (V:World) (hV:Below W.heap.size W V) :
 Calls Tryz.prog 26 #[pp m.tb] V fun e w'=>e=.returned (.int .i64 (u:Nat))/\Below V.heap.size V w':=by
 obtain ⟨K,Z,S,hp⟩:=h
 have eu:=hN.used
 have q:=charged_any m.tb s.T V (hp.tree.below hV) hN.live P.roo (by omega) (by omega)
 rw [eu] at q
 exact q
theorem kern_has {m:Pm} {s:Ps} {A:List Sr} {kf z:Nat} (k:Kern s A kf z) (so:Sound m s):m.has (kf:Nat)=true/\m.has (z:Nat)=true/\z<1048576:=by
 have q:=so.hb _ (so.gh _ k.g2)
 have:=so.F1
 exact ⟨so.gh _ k.g1,so.gh _ k.g2,by omega⟩
theorem usA_way {m:Pm} {s:Ps} {root:Nat} {tab:Nat->Nat->Option Nat} {lf:Nat->Option Lf} (rt:Rt m s root tab lf) (id:Int) (p:Nat) (v:Lf) (h1:lf p=some v) (h0: ∀ q,q≠p->lf q=none) :
 ∃ g3 g2 g1:Nat,tab 3 (pre 3 p)=some g3/\tab 2 (pre 2 p)=some g2/\tab 1 (pre 1 p)=some g1/\usA tab lf id 3 0 root=[((root:Int),2,id),((g3:Int),2,id),((g2:Int),2,id),((g1:Int),2,id),(v.f,3,id)]:=by
 have on: ∀ l x f,l<4->tab l x=some f->x=pre l p:=fun l x f hl e=>by
  obtain ⟨q,a,b⟩:=rt.fu l x f hl e
  by_cases c:q=p
  . rw [<- c];exact b.symm
  . rw [h0 q c] at a;cases a
 obtain ⟨hp,g1,e1,_⟩:=rt.pw.lf1 p v h1
 obtain ⟨g2,e2,_⟩:=rt.pw.up 1 _ g1 (by omega) e1
 obtain ⟨g3,e3,_⟩:=rt.pw.up 2 _ g2 (by omega) e2
 have p1:p / 512=pre 1 p:=rfl
 have p2:p / 512 / 512=pre 2 p:=rfl
 have p3:p / 512 / 512 / 512=pre 3 p:=rfl
 rw [p1] at e1
 rw [p2] at e2
 rw [p3] at e3
 refine ⟨g3,g2,g1,e3,e2,e1,?_⟩
 have z: ∀ l y,l<3->y≠pre (l+1) p->usE tab lf id (l+1) y=[]:=fun l y hl hy=>usE_none (by
  cases c:tab (l+1) y with
  | none => rfl
  | some f => exact absurd (on (l + 1) y f (by omega) c) hy)
 have u0:usA tab lf id 0 (pre 1 p) g1=[((g1:Int),2,id),(v.f,3,id)]:=by
  rw [usA_one (tab:=tab) (lf:=lf) (id:=id) (n:=0) (x:=pre 1 p) (f:=g1) (y:=p) p1 (fun y hy=>usP_none (h0 y hy))]
  show _::usP lf id p=_
  rw [usP_some h1]
 have u1:usA tab lf id 1 (pre 2 p) g2=((g2:Int),2,id)::[((g1:Int),2,id),(v.f,3,id)]:=by
  rw [usA_one (tab:=tab) (lf:=lf) (id:=id) (n:=1) (x:=pre 2 p) (f:=g2) (y:=pre 1 p) rfl (fun y hy=>z 0 y (by omega) hy),usE_some (n:=0) e1,u0]
 have u2:usA tab lf id 2 (pre 3 p) g3=((g3:Int),2,id)::((g2:Int),2,id)::[((g1:Int),2,id),(v.f,3,id)]:=by
  rw [usA_one (tab:=tab) (lf:=lf) (id:=id) (n:=2) (x:=pre 3 p) (f:=g3) (y:=pre 2 p) rfl (fun y hy=>z 1 y (by omega) hy),usE_some (n:=1) e2,u1]
 rw [usA_one (tab:=tab) (lf:=lf) (id:=id) (n:=3) (x:=0) (f:=root) (y:=pre 3 p) (by have:=pre3 hp;omega) (fun y hy=>z 2 y (by omega) hy),usE_some (n:=2) e3,u2]
theorem pw7 {i:Int} {a b c d e f g:Nat} (h1:a≠b) (h2:c≠a/\c≠b) (h3:d≠a/\d≠b) (h4:e≠a/\e≠b) (h5:f≠a/\f≠b) (h6:g≠a/\g≠b) (h7:c≠d/\c≠e/\c≠f) (h8:d≠e/\d≠f/\e≠f) (h9:g≠c/\g≠d/\g≠e/\g≠f) :
 ([((a:Int),1,0),((b:Int),1,0)]++[((c:Int),2,i),((d:Int),2,i),((e:Int),2,i),((f:Int),2,i),((g:Int),3,i)]:List Us).Pairwise (fun x y=>x.1≠y.1):=by
 have n: ∀ x y:Nat,x≠y-> ¬ (x:Int)=(y:Int):=fun x y q=>by omega
 simp only [List.cons_append,List.nil_append,List.pairwise_cons,List.mem_cons,List.not_mem_nil,or_false,forall_eq_or_imp,forall_eq,ne_eq,List.Pairwise.nil,and_true,false_implies,implies_true]
 refine ⟨⟨n _ _ h1,n _ _ h2.1.symm,n _ _ h3.1.symm,n _ _ h4.1.symm,n _ _ h5.1.symm,n _ _ h6.1.symm⟩,⟨n _ _ h2.2.symm,n _ _ h3.2.symm,n _ _ h4.2.symm,n _ _ h5.2.symm,n _ _ h6.2.symm⟩,⟨n _ _ h7.1,n _ _ h7.2.1,n _ _ h7.2.2,n _ _ h9.1.symm⟩,⟨n _ _ h8.1,n _ _ h8.2.1,n _ _ h9.2.1.symm⟩,⟨n _ _ h8.2.2,n _ _ h9.2.2.1.symm⟩,n _ _ h9.2.2.2.symm⟩
theorem fit_way {Y:Nat->Prop} {O:Nat->Nat} {n:Nat} {W:World} {M:Mb} {m:Pm} {s:Ps} {T:Nat->Tl.Ln} {S:Pc.Tg} {a:Sr} {z p g3 g2 g1:Nat} {v:Lf} (h:Mc Y O n W M m s T S [a]) (k:Kern s [a] M.kf z) (h1:a.lf p=some v) (e3:a.tab 3 (pre 3 p)=some g3) (e2:a.tab 2 (pre 2 p)=some g2) (e1:a.tab 1 (pre 1 p)=some g1) :
 ([((M.kf:Int),1,0),((z:Int),1,0)]++[((a.root:Int),2,a.id),((g3:Int),2,a.id),((g2:Int),2,a.id),((g1:Int),2,a.id),(v.f,3,a.id)]:List Us).Pairwise (fun x y=>x.1≠y.1)/\ ∀ u∈([((M.kf:Int),1,0),((z:Int),1,0)]++[((a.root:Int),2,a.id),((g3:Int),2,a.id),((g2:Int),2,a.id),((g1:Int),2,a.id),(v.f,3,a.id)]:List Us),∀ i:Nat,s.Fr i->u.1≠i:=by
 have ma:=List.mem_cons_self (a:=a) (l:=[])
 have rt:=h.rt a ma
 have t4:=rt.pw.t4
 have kt: ∀ l x f,a.tab l x=some f->f≠M.kf/\f≠z/\ ¬ s.Fr f:=fun l x f e=>by
  have tn:=k.tn a ma l x
  rw [e] at tn
  exact ⟨fun q=>tn.1 (by rw [q]),fun q=>tn.2 (by rw [q]),(rt.ow l x f e).2.2⟩
 have ij: ∀ l x l' x' f,a.tab l x=some f->l≠l'->a.tab l' x'≠some f:=fun l x l' x' f e hl q=>hl (rt.pw.inj l x l' x' f e q).1
 have k4:=kt _ _ _ t4
 have k3:=kt _ _ _ e3
 have k2:=kt _ _ _ e2
 have k1:=kt _ _ _ e1
 have i43:a.root≠g3:=fun e=>ij 4 0 3 (pre 3 p) _ t4 (by omega) (by rw [e];exact e3)
 have i42:a.root≠g2:=fun e=>ij 4 0 2 (pre 2 p) _ t4 (by omega) (by rw [e];exact e2)
 have i41:a.root≠g1:=fun e=>ij 4 0 1 (pre 1 p) _ t4 (by omega) (by rw [e];exact e1)
 have i32:g3≠g2:=fun e=>ij 3 _ 2 (pre 2 p) _ e3 (by omega) (by rw [e];exact e2)
 have i31:g3≠g1:=fun e=>ij 3 _ 1 (pre 1 p) _ e3 (by omega) (by rw [e];exact e1)
 have i21:g2≠g1:=fun e=>ij 2 _ 1 (pre 1 p) _ e2 (by omega) (by rw [e];exact e1)
 obtain ⟨_,f,ef,_,ff,fd⟩:=h.dat a ma p v h1
 have dn:=k.dn a ma p v h1
 rw [ef] at dn |-
 have d4:f≠a.root:=fun e=>fd a ma 4 0 (by rw [e];exact t4)
 have d3:f≠g3:=fun e=>fd a ma 3 _ (by rw [e];exact e3)
 have d2:f≠g2:=fun e=>fd a ma 2 _ (by rw [e];exact e2)
 have d1:f≠g1:=fun e=>fd a ma 1 _ (by rw [e];exact e1)
 have dz:f≠M.kf/\f≠z:=⟨fun e=>dn.1 (by rw [e]),fun e=>dn.2 (by rw [e])⟩
 refine ⟨pw7 k.ne ⟨k4.1,k4.2.1⟩ ⟨k3.1,k3.2.1⟩ ⟨k2.1,k2.2.1⟩ ⟨k1.1,k1.2.1⟩ dz ⟨i43,i42,i41⟩ ⟨i32,i31,i21⟩ ⟨d4,d3,d2,d1⟩,fun u hu i hi=> ?_⟩
 have nx: ∀ x:Nat,¬ s.Fr x->(x:Int)≠(i:Int):=fun x hx e=>hx (by rw [show x=i by omega];exact hi)
 simp only [List.cons_append,List.nil_append,List.mem_cons,List.not_mem_nil,or_false] at hu
 rcases hu with rfl | rfl | rfl | rfl | rfl | rfl | rfl
 . exact nx _ k.f1
 . exact nx _ k.f2
 . exact nx _ k4.2.2
 . exact nx _ k3.2.2
 . exact nx _ k2.2.2
 . exact nx _ k1.2.2
 . exact nx _ ff
def Tells (W:World) (mb:Nat) (c0 c1 c2 c3:Nat):Prop :=
 Calls Tryz.prog 8 #[pp mb] W fun e w'=> ∃ (v:Value) (R:List Us),e=.returned v/\OU w' W.heap.size v R/\Up R/\(kc 0 R=c0/\kc 1 R=c1/\kc 2 R=c2/\kc 3 R=c3)/\R.length<=1000000/\Below W.heap.size W w'
theorem kc_sum (R:List Us):R.length=kc 0 R+kc 1 R+kc 2 R+kc 3 R:=by
 induction R with
 | nil => rfl
 | cons u R ih =>
  rw [kc_cons,kc_cons,kc_cons,kc_cons,List.length_cons,ih]
  have:u.2.1 % 4=0\/u.2.1 % 4=1\/u.2.1 % 4=2\/u.2.1 % 4=3:=by omega
  rcases this with e | e | e | e <;> simp [e] <;> omega
theorem tells_of {W:World} {mb c:Nat} {F:Nat->Prop} {U:List Us} (h:Calls Tryz.prog 8 #[pp mb] W fun e w'=> ∃ (v:Value) (R:List Us),e=.returned v/\OU w' W.heap.size v R/\Up R/\(∀ k,kc k R=(if k=0 then Bd.cnt F 1048576 else 0)+kc k U)/\Below W.heap.size W w') (hc:Bd.cnt F 1048576=c) {c1 c2 c3:Nat} (h0:kc 0 U=0) (h1:kc 1 U=c1) (h2:kc 2 U=c2) (h3:kc 3 U=c3) (hl:c+c1+c2+c3<=1000000):Tells W mb c c1 c2 c3:=by
 refine h.mono ?_
 rintro e w' ⟨v,R,he,a1,a2,a3,a4⟩
 rw [hc] at a3
 have q0:kc 0 R=c:=by rw [a3 0,if_pos rfl,h0];rfl
 have q1:kc 1 R=c1:=by rw [a3 1,if_neg (by omega),h1,Nat.zero_add]
 have q2:kc 2 R=c2:=by rw [a3 2,if_neg (by omega),h2,Nat.zero_add]
 have q3:kc 3 R=c3:=by rw [a3 3,if_neg (by omega),h3,Nat.zero_add]
 exact ⟨v,R,he,a1,a2,⟨q0,q1,q2,q3⟩,by rw [kc_sum,q0,q1,q2,q3];exact hl,a4⟩
theorem count_of {W:World} {mb c0 c1 c2 c3:Nat}:Tells W mb c0 c1 c2 c3-> ∀ {V:World} {v:Value} {R:List Us},UL V W.heap.size v R->(kc 0 R=c0/\kc 1 R=c1/\kc 2 R=c2/\kc 3 R=c3)->R.length<=1000000->Calls Tryz.prog 5 #[v] V fun e w'=>e=.returned (.agg #[.int .i64 (c0:Nat),.int .i64 (c1:Nat),.int .i64 (c2:Nat),.int .i64 (c3:Nat)])/\Below V.heap.size V w':=fun _ V v R hU hk hl=>by
 have q:=count_any W.heap.size v R hl V hU
 rw [hk.1,hk.2.1,hk.2.2.1,hk.2.2.2] at q
 exact q
theorem check_of {Y:Nat->Prop} {O:Nat->Nat} {n:Nat} {W:World} {M:Mb} {m:Pm} {s:Ps} {T:Nat->Tl.Ln} {S:Pc.Tg} {A:List Sr} (h:Mc Y O n W M m s T S A) (hn:n<=1048600) (P:Prt m s) {r:Int} {u f c0 c1 c2 c3 ln:Nat} (hN:Nums m s 0 r (u:Nat) f) (hu:u<=1000000) (hG:Bd.cnt (fun i:Nat=>(s.G i).isSome=true) 1048576=u) (ht:Tells W M.mb c0 c1 c2 c3) (hl:ln=0\/c1+c2+c3=u)
 (sp: ∀ {L:List Int},Bd.Asc L->(∀ x,x∈L↔(spF A x).isSome=true)->L.length=ln) :
 Calls Tryz.prog 9 #[pp M.mb] W fun e w'=>e=.returned (.int .i64 0)/\Below W.heap.size W w':=by
 refine check_any (b:=m.b) (tb:=m.tb) u ln (h.mac.cell 1) (h.mac.cell 2) hu (ht.mono ?_) (fun V hV=>(spaces_any (h.below hV) hn).mono ?_) (fun V hV=> ?_) (fun V hV=>charged_pu h.pu P hN hu V hV)
 . rintro e w' ⟨v,R,he,a1,a2,a3,a4,a5⟩
   refine ⟨v,R,he,a1,a2,a4,?_,a5⟩
   rw [a3.2.1,a3.2.2.1,a3.2.2.2];exact hl
 . rintro e w' ⟨v,L,he,a1,a2,a3,a4⟩
   obtain ⟨p,c,hv,_⟩:=ints_form a3
   rw [sp a1 a2] at hv
   exact ⟨p,c,by rw [he,hv],a4⟩
 . have q:=given_pu h.pu P V hV
   rw [hG] at q
   exact q
end Go.Proofs.YtajfbieacfjhnaaGreatDoor.Au
namespace Go.Proofs.YtajfbieacfjhnaaGreatDoor.Au
open Go.ChangeShapes Go.WideShapes Go.ChangeAt Go.RowKit Go.Maps
open Go.Proofs.YtajfbieacfjhnaaGreatDoor.Tt Go.Proofs.YtajfbieacfjhnaaGreatDoor.Sp
set_option linter.unusedSimpArgs false
set_option linter.unusedVariables false
set_option maxRecDepth 8000
theorem lfs_at (l:Nat->Option Lf) (p:Nat) (o:Option Lf):lfSet l p o p=o:=if_pos rfl
theorem lfs_ne (l:Nat->Option Lf) (p:Nat) (o:Option Lf) {q:Nat} (h:q≠p):lfSet l p o q=l q:=if_neg h
theorem way_tells {Y:Nat->Prop} {O:Nat->Nat} {n:Nat} {W:World} {M:Mb} {m:Pm} {s:Ps} {T:Nat->Tl.Ln} {S:Pc.Tg} {a:Sr} {z p:Nat} {v:Lf} (h:Mc Y O n W M m s T S [a]) (hn:n<=1048600) (wi:(Lit.int .i64 a.id).wf=true) (k:Kern s [a] M.kf z) (hr: ∀ x,a.rp=some x-> ∃ g,x=⟨g,0,none⟩) (own: ∀ (p:Nat) v,a.lf p=some v->(Re.findR a.L (p:Int)).2=true/\(Re.findR a.L (p:Int)).1.kd=0)
 (h1:a.lf p=some v) (h0: ∀ q,q≠p->a.lf q=none) {c:Nat} (hc:Bd.cnt s.Fr 1048576=c) (c0:0<c) (c1:c<=999000):Tells W M.mb c 2 4 1:=by
 have ma:=List.mem_cons_self (a:=a) (l:=[])
 obtain ⟨g3,g2,g1,e3,e2,e1,eu⟩:=usA_way (h.rt a ma) a.id p v h1 h0
 have hh:=kern_has k h.pu.so
 have ft:=fit_way h k h1 e3 e2 e1
 rw [<- eu] at ft
 have ln:([((M.kf:Int),1,0),((z:Int),1,0)]++usA a.tab a.lf a.id 3 0 a.root).length=7:=by rw [eu];rfl
 have f1:=frames_one h hn wi hr k hh.1 hh.2.2 own _ rfl ⟨by rw [hc];exact c0,by rw [hc,ln];omega⟩ ft
 rw [eu] at f1
 exact tells_of f1 hc rfl rfl rfl rfl (by omega)
theorem len_one {a:Sr} {L:List Int} (ha:Bd.Asc L) (h: ∀ x,x∈L↔(spF [a] x).isSome=true):L.length=1:=by rw [one_key ha h];rfl
set_option maxHeartbeats 4000000 in
theorem awake_any (W:World) (tb0:Tab W):Calls Tryz.prog 6 #[] W fun e w'=>e=.returned (.bool true)/\Below W.heap.size W w':=by
 have BC:Hid _:=begin_ok 40 5 (by omega) (by omega) (by omega) (by omega) W tb0
 clear tb0
 go_enter Tryz.func6,Tryz.ntmps6
 go_wp2_with fail
 refine Calls.mono BC.out ?_
 rintro e w1 ⟨M,m,s,xb,rfl,hB⟩
 have G1:Hid (Below w1.heap.size w1 (w1.alloc (.cells #[.slice none 0 0,.slice (some ⟨xb,0,none⟩) 1 1,.int .i64 0] 33))):=Go.Joins.below_alloc1 _ _
 have HB:Hid (Booted 40 5 W w1 M m s):=hB
 clear hB BC
 go_upto_region 2 with fail
 generalize (w1.alloc (.cells #[.slice none 0 0,.slice (some ⟨xb,0,none⟩) 1 1,.int .i64 0] 33))=w2 at G1 |-
 have OC:Hid (Calls Tryz.prog 10 #[pp M.mb,.int .i64 1,.int .i64 0] w2 fun e w'=>e=.returned (.int .i64 0)/\ ∃ (O:Nat->Nat) (s1:Ps) (root sb lb z:Nat),Mc (fun j=>j<W.heap.size) O 1 w' M m s1 Tl.T0 (Pc.freshS 5) [sr0 1 0 sb 0 root lb]/\Nums m s1 0 36 3 36/\s1.q<=6000/\Kept (fun j=>j<W.heap.size) W w'/\Prt m s1/\Kern s1 [sr0 1 0 sb 0 root lb] M.kf z/\m.F=40):=by
  obtain ⟨O,hM,hN,a1,a2,a3,hb,hP,z,hK⟩:=HB.out
  have q:=open_ok (hM.below G1.out) 1 (by omega) (by omega) (by simp) 0 (by simp) 0 (hN.box (by simp)) (by omega) (by rw [hN.room];omega) (by omega)
  refine Calls.mono q ?_
  rintro e w' ⟨he,O',root,sb,lb,M2,fr,h1,h2,h3,h4⟩
  have nn:=hN.take hM.pu.so (L:=[root]) ⟨by simp,fun x hx=>by simp at hx;rw [hx];exact fr⟩ M2 (s.q+2)
  refine ⟨he,O',_,root,sb,lb,z,h1,?_,by show s.q+2<=6000;omega,?_,h3 hP,h4 z hK,a1⟩
  . exact nn
  . exact Kept.trans (kept_of_below hb (fun j hj=>hj)) (Kept.trans (kept_of_below G1.out (fun j hj=>Nat.lt_of_lt_of_le hj hb.size)) h2)
 clear HB G1
 go_wp2_with fail
 refine Calls.mono OC.out ?_
 rintro e w3 ⟨rfl,O3,s3,root,sb,lb,z,hM3,hN3,hq3,hK3,hP3,hE3,hF3⟩
 have MC:Hid (Calls Tryz.prog 12 #[pp M.mb,.int .i64 1,.agg #[.int .i64 0,.int .i64 4],.agg #[.bool true,.bool true,.bool false]] w3 fun e w'=>e=.returned (.int .i64 0)/\ ∃ O p4 c4,Mc (fun j=>j<W.heap.size) O 1 w' M m s3 Tl.T0 (Pc.freshS 5) [{ sr0 1 0 sb 0 root lb with rp:=p4,rc:=c4,L:=[⟨0,4,true,true,false,0⟩] }]/\Kept (fun j=>j<W.heap.size) W w'):=by
  obtain ⟨e1,e2⟩:=add_first 0 4 true true false (by omega) (by omega) (by omega) (by omega)
  have q:=map_ok hM3 0 4 true true false [⟨0,4,true,true,false,0⟩] e1 e2 (by simp) one_wf
  refine Calls.mono q ?_
  rintro e w' ⟨he,O',p',c',h1,h2⟩
  exact ⟨he,O',p',c',h1,hK3.trans h2⟩
 have N3:Hid (Nums m s3 0 36 3 36/\s3.q<=6000/\Prt m s3/\Kern s3 [sr0 1 0 sb 0 root lb] M.kf z/\m.F=40):=⟨hN3,hq3,hP3,hE3,hF3⟩
 clear hM3 hN3 hq3 hK3 hP3 hE3 hF3 OC
 go_wp2_with fail
 refine Calls.mono MC.out ?_
 rintro e w4 ⟨rfl,O4,p4,c4,hM4,hK4⟩
 have TC:Hid (Calls Tryz.prog 13 #[pp M.mb,.int .i64 1,.int .i64 2,.agg #[.bool false,.bool false,.bool false]] w4 fun e w'=> ∃ f:Nat,e=.returned (.tuple #[.int .i64 f,.int .i64 0,.int .i64 0])/\Supplied (fun j=>j<W.heap.size) O4 1 w4 w' M m s3 Tl.T0 (Pc.freshS 5) { sr0 1 0 sb 0 root lb with rp:=p4,rc:=c4,L:=[⟨0,4,true,true,false,0⟩] } [] 2 f true true false 36 3 36):=by
  have q:=touch_new hM4 2 (by omega) false false false 0 4 0 true true false one_wf rfl rfl rfl N3.out.1 (by show 1+(fresh (pgs (fun _=>none)) 2:Int)<=36;rw [fresh_none];omega) (by omega) (by have:=N3.out.2.1;omega) (by show 0<1000000;omega)
  exact q
 have K4:Hid (Kept (fun j=>j<W.heap.size) W w4):=hK4
 have Q4:Hid (∀ x,p4=some x-> ∃ g,x=⟨g,0,none⟩):=fun x ex=>by
  obtain ⟨g,e,_⟩:=(hM4.sp _ (List.mem_cons_self ..)).lis 0 (by simp)
  simp only at e
  rw [ex] at e;cases e;exact ⟨g,rfl⟩
 clear hM4 hK4 MC
 go_wp2_with fail
 refine Calls.mono TC.out ?_
 rintro e w5 ⟨f,rfl,s5,tab5,hM5,hN5,hq5,hf5,hK5,hP5,hE5⟩
 have D5:Hid (∀ V,Below w5.heap.size w5 V->Tells V M.mb 32 2 4 1/\Calls Tryz.prog 9 #[pp M.mb] V fun e w'=>e=.returned (.int .i64 0)/\Below V.heap.size V w'):=fun V hV=>by
  have hM:=hM5.below hV
  have hP:=hP5 N3.out.2.2.1
  have hE:=hE5 z (N3.out.2.2.2.1.same { sr0 1 0 sb 0 root lb with rp:=p4,rc:=c4,L:=[⟨0,4,true,true,false,0⟩] } rfl rfl rfl)
  have nn:Nums m s5 0 (36-1-(fresh (pgs (fun _=>none)) 2:Int)) (3+1+(fresh (pgs (fun _=>none)) 2:Int)) (36-1-fresh (pgs (fun _=>none)) 2):=hN5
  rw [fresh_none 2] at nn
  have nn:Nums m s5 0 32 ((7:Nat):Int) 32:=nn
  have t:=way_tells (p:=2) (v:=⟨(f:Nat),true,true,false⟩) hM (by omega) one_wf hE Q4.out (fun p v e=>by
   have e2:p=2:=by
    apply Classical.byContradiction
    intro c
    have:lfSet (fun _=>none) 2 (some ⟨(f:Nat),true,true,false⟩) p=some v:=e
    unfold lfSet at this
    rw [if_neg c] at this;cases this
   subst e2
   exact ⟨rfl,rfl⟩) (lfs_at (fun _=>none) 2 (some ⟨(f:Nat),true,true,false⟩)) (fun q hq=>lfs_ne (fun _=>none) 2 (some ⟨(f:Nat),true,true,false⟩) hq) nn.free (by omega) (by omega)
  refine ⟨t,check_of hM (by omega) hP nn (by omega) ?_ t (Or.inr (by omega)) (fun ha h=>len_one ha h)⟩
  have q:=given_cnt hP hM5.pu.so (G:=40) (by omega) N3.out.2.2.2.2 nn.free
  omega
 have B5:Hid (Below W.heap.size W w5):=below_of_kept (K4.out.trans hK5)
 clear hM5 hN5 hq5 hf5 hK5 hP5 hE5 TC K4 N3 Q4
 have E4: ∀ V:World,(Op.equalIn 10000 23 (.agg #[.int .i64 32,.int .i64 2,.int .i64 4,.int .i64 1]) (.agg #[.int .i64 32,.int .i64 2,.int .i64 4,.int .i64 1])).run Tryz.prog V=.ok true V:=fun V=>eq4 32 2 4 1 32 2 4 1 V
 go_wp2_with fail
 refine Calls.mono (D5.out _ (Below.refl _ _)).1 ?_
 rintro e w6 ⟨v,R,rfl,a1,a2,a3,a4,a5⟩
 have R6:Hid (UL w6 w5.heap.size v R/\(kc 0 R=32/\kc 1 R=2/\kc 2 R=4/\kc 3 R=1)/\R.length<=1000000/\Below w5.heap.size w5 w6):=⟨Bm.ol_ll eU_len a1,a3,a4,a5⟩
 clear a1 a2 a3 a4 a5
 go_wp2_with fail
 refine Calls.mono (count_of (D5.out w5 (Below.refl _ _)).1 R6.out.1 R6.out.2.1 R6.out.2.2.1) ?_
 rintro e w7 ⟨rfl,hb⟩
 have B7:Hid (Below w5.heap.size w5 w7):=below_then R6.out.2.2.2 hb
 clear hb R6
 go_wp2_with fail
 refine Calls.mono (D5.out _ B7.out).2 ?_
 rintro e w8 ⟨rfl,hb⟩
 have HE:Hid (Below W.heap.size W w8):=below_then (below_then B5.out B7.out) hb
 clear hb D5 B7 B5
 go_wp2_with fail
 go_returns
 exact ⟨rfl,HE.out⟩
end Go.Proofs.YtajfbieacfjhnaaGreatDoor.Au
