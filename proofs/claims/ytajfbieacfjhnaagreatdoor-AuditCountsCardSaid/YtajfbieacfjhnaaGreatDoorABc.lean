import Derived.Test.YtajfbieacfjhnaaGreatDoorKZc
import Derived.Test.YtajfbieacfjhnaaGreatDoorAAc
import Derived.Test.YtajfbieacfjhnaaGreatDoorSUc
namespace Go.Proofs.YtajfbieacfjhnaaGreatDoor.Au
open Go.ChangeShapes Go.WideShapes Go.ChangeAt Go.RowKit Go.Maps
open Go.Proofs.YtajfbieacfjhnaaGreatDoor.Tt Go.Proofs.YtajfbieacfjhnaaGreatDoor.Sp
set_option linter.unusedSimpArgs false
set_option linter.unusedVariables false
set_option maxRecDepth 8000
abbrev NV (b:Nat):Value:=.func (.func 16) #[] #[pp b]
theorem ks_below {w0 V V':World} {K:Nat->Prop} {b:Nat} {L:List Us} (h:LU w0 K b L V) (hb:Below V.heap.size V V'):Ks w0 K V V':=kept_of_below hb (fun j hj=>hj.elim (fun c=>(h.kb j c).2) (fun c=>Nat.lt_of_lt_of_le c h.bel.size))
theorem Ks.less {w0 V V':World} {K K':Nat->Prop} (h:Ks w0 K' V V') (hs: ∀ j,K j->K' j):Ks w0 K V V':=Kept.sub h (fun j hj=>hj.elim (fun c=>Or.inl (hs j c)) Or.inr)
theorem Ks.cell {w0 V V':World} {K:Nat->Prop} (h:Ks w0 K V V') {k:Nat} (hk:K k) {i:Nat} {v:Value} (c:V.cell? ⟨k,i,none⟩=some v):V'.cell? ⟨k,i,none⟩=some v:=(World.cell?_of_block (w:=V) (a:=⟨k,i,none⟩) (h.block k (Or.inl hk))).trans c
theorem Ks.old {w0 V V':World} {K:Nat->Prop} (h:Ks w0 K V V') {k:Nat} (hk:k<w0.heap.size) {i:Nat} {v:Value} (c:V.cell? ⟨k,i,none⟩=some v):V'.cell? ⟨k,i,none⟩=some v:=(World.cell?_of_block (w:=V) (a:=⟨k,i,none⟩) (h.block k (Or.inr hk))).trans c
set_option maxHeartbeats 1000000 in
theorem kk_any {w0 W:World} {K:Nat->Prop} {b:Nat} {L:List Us} (hl:LU w0 K b L W) (hL:L.length<=1000000) (k0:Nat) (hk:K k0) (c0:W.cell? ⟨k0,0,none⟩=some (NV b)) (j:Int) (r u a d lg gl nn:Bool) (fr:Int) :
 Calls Tryz.prog 56 #[.int .i64 j,.agg #[.bool true,.bool r,.bool u,.bool a,.bool d,.bool lg,.bool gl,.bool nn,.int .i64 fr],pp k0] W fun e w'=>e=.returned (.tuple #[])/\LU w0 K b (L++[(fr,1,0)]) w'/\Ks w0 K W w':=by
 have hb0:Below W.heap.size W (W.alloc (.cells #[.bool true,.bool r,.bool u,.bool a,.bool d,.bool lg,.bool gl,.bool nn,.int .i64 fr] 135)):=Go.Joins.below_alloc1 _ _
 have BB:Hid (Blk (W.alloc (.cells #[.bool true,.bool r,.bool u,.bool a,.bool d,.bool lg,.bool gl,.bool nn,.int .i64 fr] 135)) W.heap.size [.bool true,.bool r,.bool u,.bool a,.bool d,.bool lg,.bool gl,.bool nn,.int .i64 fr] 135):=Blk.made _ _ _
 have K0:Hid (Ks w0 K W (W.alloc (.cells #[.bool true,.bool r,.bool u,.bool a,.bool d,.bool lg,.bool gl,.bool nn,.int .i64 fr] 135))):=ks_below hl hb0
 have H0:Hid (LU w0 K b L (W.alloc (.cells #[.bool true,.bool r,.bool u,.bool a,.bool d,.bool lg,.bool gl,.bool nn,.int .i64 fr] 135))):=hl.below hb0
 have c1:(W.alloc (.cells #[.bool true,.bool r,.bool u,.bool a,.bool d,.bool lg,.bool gl,.bool nn,.int .i64 fr] 135)).cell? ⟨k0,0,none⟩=some (NV b):=(K0.out).cell hk c0
 have NC:Hid (∀ V,LU w0 K b L V->_):=fun V hV=>note_any hV hL fr 1 0
 clear hl c0 hb0
 go_enter Tryz.func56,Tryz.ntmps56
 go_upto_region 1 with fail
 generalize (W.alloc (.cells #[.bool true,.bool r,.bool u,.bool a,.bool d,.bool lg,.bool gl,.bool nn,.int .i64 fr] 135))=V at BB K0 H0 c1  |-
 generalize W.heap.size=q at BB |-
 have x8:=BB.out.cell 8
 simp only [List.getElem?_cons_succ,List.getElem?_cons_zero] at x8
 clear BB
 go_wp2_with fail
 refine Calls.mono (NC.out _ H0.out) ?_
 rintro e w' ⟨rfl,h1,h2⟩
 have HE:Hid (LU w0 K b (L++[(fr,1,0)]) w'/\Ks w0 K W w'):=⟨h1,K0.out.trans h2⟩
 clear h1 h2 NC K0 H0 c1 x8
 go_wp2_with fail
 go_returns
 exact ⟨rfl,HE.out⟩
theorem k_no {W:World} (k0 k1:Nat) (j:Int) (hj:j≠256) (r u a d lg gl nn:Bool) (fr:Int) :
 Calls Tryz.prog 55 #[.int .i64 j,.agg #[.bool true,.bool r,.bool u,.bool a,.bool d,.bool lg,.bool gl,.bool nn,.int .i64 fr],pp k0,pp k1] W fun e w'=>e=.returned (.tuple #[])/\Below W.heap.size W w':=by
 have hb0:Hid (Below W.heap.size W (W.alloc (.cells #[.bool true,.bool r,.bool u,.bool a,.bool d,.bool lg,.bool gl,.bool nn,.int .i64 fr] 135))):=Go.Joins.below_alloc1 _ _
 have d1:(j==256)=false:=by simp [hj]
 have d2:(j != 256)=true:=by simp [hj]
 go_enter Tryz.func55,Tryz.ntmps55
 go_wp2_with fail
 go_returns
 exact ⟨rfl,hb0.out⟩
set_option maxHeartbeats 2000000 in
theorem k_yes {X:Nat->Prop} {w0 W:World} {m:Pm} {s:Ps} (h:Pu X w0 m s) {K:Nat->Prop} {b:Nat} {L:List Us} (hl:LU w0 K b L W) (hL:L.length<=999990) (k0 k1 mb:Nat) (hk0:K k0) (c0:W.cell? ⟨k0,0,none⟩=some (NV b)) (hk1:K k1) (c1:W.cell? ⟨k1,0,none⟩=some (pp mb)) (lm:mb<w0.heap.size) (cm:W.cell? ⟨mb,0,none⟩=some (pp m.rb))
 (kf z:Nat) (hf:m.has kf=true) (hz:z<1048576) (en: ∀ j:Nat,j<512->En s.M kf j=if j=0 then kV z else 0) (r u a d lg gl nn:Bool) :
 Calls Tryz.prog 55 #[.int .i64 256,.agg #[.bool true,.bool r,.bool u,.bool a,.bool d,.bool lg,.bool gl,.bool nn,.int .i64 kf],pp k0,pp k1] W fun e w'=>e=.returned (.tuple #[])/\LU w0 K b (L++[((kf:Int),1,0),((z:Int),1,0)]) w'/\Ks w0 K W w':=by
 obtain ⟨K',hK'⟩: ∃ K':Nat->Prop,K'=fun i=>K i\/(W.heap.size<=i/\i<W.heap.size+1):=⟨_,rfl⟩
 have KS:Hid (∀ j,K j->K' j):=fun j hj=>by rw [hK'];exact Or.inl hj
 have Kq:Hid (K' W.heap.size):=by show K' _;rw [hK'];exact Or.inr ⟨by omega,by omega⟩
 have hb0:Below W.heap.size W (W.alloc (.cells #[.bool true,.bool r,.bool u,.bool a,.bool d,.bool lg,.bool gl,.bool nn,.int .i64 kf] 135)):=Go.Joins.below_alloc1 _ _
 have BB:Hid (Blk (W.alloc (.cells #[.bool true,.bool r,.bool u,.bool a,.bool d,.bool lg,.bool gl,.bool nn,.int .i64 kf] 135)) W.heap.size [.bool true,.bool r,.bool u,.bool a,.bool d,.bool lg,.bool gl,.bool nn,.int .i64 kf] 135):=Blk.made _ _ _
 have K0:Hid (Ks w0 K W (W.alloc (.cells #[.bool true,.bool r,.bool u,.bool a,.bool d,.bool lg,.bool gl,.bool nn,.int .i64 kf] 135))):=ks_below hl hb0
 have H0:Hid (LU w0 K' b L (W.alloc (.cells #[.bool true,.bool r,.bool u,.bool a,.bool d,.bool lg,.bool gl,.bool nn,.int .i64 kf] 135))):=by
  have q:=hl.grow hb0
  rw [World.size_alloc] at q
  rw [hK'];exact q
 have e0:(W.alloc (.cells #[.bool true,.bool r,.bool u,.bool a,.bool d,.bool lg,.bool gl,.bool nn,.int .i64 kf] 135)).cell? ⟨k0,0,none⟩=some (NV b):=(K0.out).cell hk0 c0
 have e1:(W.alloc (.cells #[.bool true,.bool r,.bool u,.bool a,.bool d,.bool lg,.bool gl,.bool nn,.int .i64 kf] 135)).cell? ⟨k1,0,none⟩=some (pp mb):=(K0.out).cell hk1 c1
 have e2:(W.alloc (.cells #[.bool true,.bool r,.bool u,.bool a,.bool d,.bool lg,.bool gl,.bool nn,.int .i64 kf] 135)).cell? ⟨mb,0,none⟩=some (pp m.rb):=(K0.out).old lm cm
 have NC:Hid (∀ V,LU w0 K' b L V->_):=fun V hV=>note_any hV (by omega) (kf:Int) 1 0
 have EC:Hid (∀ V,LU w0 K' b (L++[((kf:Int),1,0)]) V->V.cell? ⟨k0,0,none⟩=some (NV b)->Calls Tryz.prog 54 #[pp m.rb,.int .i64 kf,.func (.func 56) #[] #[pp k0]] V fun e w'=>e=.returned (.tuple #[])/\LU w0 K' b (L++[((kf:Int),1,0),((z:Int),1,0)]) w'/\Ks w0 K' V w'):=fun V hV cV=>by
  have hk0':=KS.out k0 hk0
  have q:=each_kk h kf hf k0 (fun j U=>LU w0 K' b (if j=0 then L++[((kf:Int),1,0)] else L++[((kf:Int),1,0),((z:Int),1,0)]) U/\Ks w0 K' V U)
   (fun j U U' hU hb=>⟨hU.1.below hb,hU.2.trans (ks_below hU.1 hb)⟩) (fun j U hU=>hU.1.bel) (fun j U hj e0 hU=>by
    rw [en j hj] at e0
    by_cases c:j=0
    . rw [if_pos c] at e0
      have p:=(pack_says true true false false false false false false z (by omega) (by omega)).1
      unfold kV at e0
      rw [e0] at p;exact absurd p (by decide)
    . rw [if_neg c] at hU
      rw [if_neg (by omega)];exact hU)
   (fun j hj=>by
    by_cases c:j=0
    . right
      refine ⟨true,false,false,false,false,false,false,z,by omega,by omega,by rw [en j hj,if_pos c],fun U hU=> ?_⟩
      rw [if_pos c] at hU
      refine (kk_any hU.1 (by rw [List.length_append];simp;omega) k0 hk0' (hU.2.cell hk0' cV) j true false false false false false false z).mono ?_
      rintro e w' ⟨he,h1,h2⟩
      rw [if_neg (by omega)]
      refine ⟨he,?_,hU.2.trans h2⟩
      rw [List.append_assoc] at h1;exact h1
    . left;rw [en j hj,if_neg c])
   V ⟨by rw [if_pos rfl];exact hV,Kept.refl _ _⟩
  refine q.mono ?_
  rintro e w' ⟨he,h1,h2⟩
  rw [if_neg (by omega)] at h1
  exact ⟨he,h1,h2⟩
 have CC:Hid (K' k0/\K' k1/\mb<w0.heap.size):=⟨KS.out _ hk0,KS.out _ hk1,lm⟩
 clear h hl hf en hk0 hk1 lm cm c0 c1 hL hz hb0 hK'
 go_enter Tryz.func55,Tryz.ntmps55
 go_upto_region 1 with fail
 generalize (W.alloc (.cells #[.bool true,.bool r,.bool u,.bool a,.bool d,.bool lg,.bool gl,.bool nn,.int .i64 kf] 135))=V at BB K0 H0 e0 e1 e2 |-
 generalize W.heap.size=q at BB Kq |-
 have x8:V.cell? ⟨q,8,none⟩=some (.int .i64 kf):=BB.out.cell 8
 clear BB
 go_wp2_with fail
 refine Calls.mono (NC.out _ H0.out) ?_
 rintro e w1 ⟨rfl,h1,h2⟩
 have H1:Hid (LU w0 K' b (L++[((kf:Int),1,0)]) w1/\Ks w0 K W w1):=⟨h1,K0.out.trans (h2.less KS.out)⟩
 have G3:Hid (w1.cell? ⟨k0,0,none⟩=some (NV b)/\w1.cell? ⟨k1,0,none⟩=some (pp mb)/\w1.cell? ⟨mb,0,none⟩=some (pp m.rb)/\w1.cell? ⟨q,8,none⟩=some (.int .i64 kf)):=⟨h2.cell CC.out.1 e0,h2.cell CC.out.2.1 e1,h2.old CC.out.2.2 e2,h2.cell Kq.out x8⟩
 clear h1 h2 NC e0 e1 e2 x8 K0 H0
 go_upto_region 3 with fail
 refine wp_region_noPanic ?_
 refine wp_region_held_drew (S:=fun cw=>cw.cell? ⟨k1,0,none⟩=some (pp mb)/\cw.cell? ⟨mb,0,none⟩=some (pp m.rb)/\cw.cell? ⟨q,8,none⟩=some (.int .i64 kf)) (by kernel_rfl) ?_ (fun hHeld=> ?_)
 . exact G3.out.2
 have H2:Hid (LU w0 K' b (L++[((kf:Int),1,0)]) w1.drew/\Ks w0 K W w1.drew):=⟨H1.out.1.below (below_drew (Below.refl _ _)),H1.out.2.trans (ks_below (H1.out.1.less KS.out) (below_drew (Below.refl _ _)))⟩
 have GU:Hid (w1.drew.cell? ⟨k0,0,none⟩=some (NV b)):=G3.out.1
 clear H1 G3
 generalize w1.drew=U at hHeld H2 GU |-
 refine tk 0 13 (pp mb) rfl (Or.inl ⟨by rfl,?_⟩) ?_
 . intro w hSw;(try dsimp only at hSw);have r:=hSw.1;(try go_simp);(try simp [*])
 try simp only [Act.put,z1,z2,z3]
 refine tk 1 14 ?_ rfl (Or.inl ⟨by rfl,?_⟩) ?_
 rotate_left
 . intro w hSw;(try dsimp only at hSw);go_simp;(try with_reducible rfl)
 try simp only [Act.put,z1,z2,z3]
 refine tk 2 15 ?_ rfl (Or.inl ⟨by rfl,?_⟩) ?_
 rotate_left
 . intro w hSw;(try dsimp only at hSw);go_simp;(try with_reducible rfl)
 try simp only [Act.put,z1,z2,z3]
 refine tk 3 16 (pp m.rb) rfl (Or.inl ⟨by rfl,?_⟩) ?_
 . intro w hSw;(try dsimp only at hSw);have r:=hSw.2.1;(try go_simp);(try simp [*])
 try simp only [Act.put,z1,z2,z3]
 refine tk 4 17 ?_ rfl (Or.inl ⟨by rfl,?_⟩) ?_
 rotate_left
 . intro w hSw;(try dsimp only at hSw);go_simp;(try with_reducible rfl)
 try simp only [Act.put,z1,z2,z3]
 refine tk 5 18 (.int .i64 kf) rfl (Or.inl ⟨by rfl,?_⟩) ?_
 . intro w hSw;(try dsimp only at hSw);have r:=hSw.2.2;(try go_simp);(try simp [*])
 try simp only [Act.put,z1,z2,z3]
 refine tk 6 19 ?_ rfl (Or.inl ⟨by rfl,?_⟩) ?_
 rotate_left
 . intro w hSw;(try dsimp only at hSw);go_simp;(try with_reducible rfl)
 try simp only [Act.put,z1,z2,z3]
 refine wpAnyH_ready (rs:=[7]) (by kernel_rfl) (by simp) ?_
 refine AllReadyH.cons (o:=⟨some 20,_,_,_,_,none⟩) rfl (fun Kc hK=> ?_) AllReadyH.nil
 go_simp
 go_wp2_with (go_at_call 54;refine Calls.mono (EC.out _ H2.out.1 GU.out) ?_;rintro e w2 ⟨rfl,h1,h2⟩)
 have HE:Hid (LU w0 K b (L++[((kf:Int),1,0),((z:Int),1,0)]) w2/\Ks w0 K W w2):=⟨h1.less KS.out,H2.out.2.trans (h2.less KS.out)⟩
 have KP:w2.cell? ⟨k1,0,none⟩=some (pp mb)/\w2.cell? ⟨mb,0,none⟩=some (pp m.rb)/\w2.cell? ⟨q,8,none⟩=some (.int .i64 kf):=⟨h2.cell CC.out.2.1 hHeld.1,h2.old CC.out.2.2 hHeld.2.1,h2.cell Kq.out hHeld.2.2⟩
 refine hK.out _ _ KP (fun hHeld2=> ?_)
 clear hK Kc hHeld EC H2 GU h1 h2 KP
 have hHeld:=hHeld2
 clear hHeld2
 try simp only [Act.put,z1,z2,z3]
 clear hHeld
 refine wpAnyH_done (by kernel_rfl) ?_ _
 refine NoPanic.normal ?_
 go_wp2_with fail
 go_returns
 exact ⟨rfl,HE.out⟩
end Go.Proofs.YtajfbieacfjhnaaGreatDoor.Au
namespace Go.Proofs.YtajfbieacfjhnaaGreatDoor.Au
open Go.ChangeShapes Go.WideShapes Go.ChangeAt Go.RowKit Go.Maps
open Go.Proofs.YtajfbieacfjhnaaGreatDoor.Tt Go.Proofs.YtajfbieacfjhnaaGreatDoor.Sp
set_option linter.unusedSimpArgs false
set_option linter.unusedVariables false
set_option maxRecDepth 8000
set_option maxHeartbeats 1000000 in
theorem own_any (p:Option Addr) (c:Nat) (R:List Re.Rg) (hR:R.length<=100) (i:Int) (hf:(Re.findR R i).2=true) (hk:(Re.findR R i).1.kd=0) (w:World) (h:Re.IsL w 0 p R) :
 Calls Tryz.prog 60 #[.slice p R.length c,.int .i64 i] w fun e w'=>e=.returned (.bool true)/\Below w.heap.size w w':=by
 have FC:Hid _:=Re.find_any 0 p c R hR i w h
 rw [hf] at FC
 generalize (Re.findR R i).1=r at FC hk
 obtain ⟨f,t,x,u,y,kd⟩:=r
 simp only at hk
 subst hk
 clear h hf
 go_enter Tryz.func60,Tryz.ntmps60
 go_wp2_with fail
 refine Calls.mono FC.out ?_
 rintro e w1 ⟨rfl,hb⟩
 have HB:Hid (Below w.heap.size w (w1.alloc (.cells #[.int .i64 f,.int .i64 t,.bool x,.bool u,.bool y,.int .i64 0] 102))):=Bm.below_new hb _
 clear hb FC
 go_wp2_with fail
 go_returns
 exact ⟨rfl,HB.out⟩
structure Env (w0:World) (K:Nat->Prop) (b mb rb:Nat) (id:Int) (p:Option Addr) (c:Nat) (R:List Re.Rg) (kn ki km kb kr:Nat) (W:World):Prop where
 n1:K kn/\W.cell? ⟨kn,0,none⟩=some (NV b)
 i1:K ki/\W.cell? ⟨ki,0,none⟩=some (.int .i64 id)
 m1:K km/\W.cell? ⟨km,0,none⟩=some (pp mb)
 b1:K kb/\W.cell? ⟨kb,0,none⟩=some (.func (.func 58) #[] #[pp kn,pp ki,pp km,pp kb,pp kr])
 r1:K kr/\W.cell? ⟨kr,0,none⟩=some (.slice p R.length c)
 ma:mb<w0.heap.size/\W.cell? ⟨mb,0,none⟩=some (pp rb)
 ls:Re.IsL W 0 p R
 lk: ∀ g,p=some ⟨g,0,none⟩->0<R.length->K g
 few:R.length<=100
theorem Env.keep {w0 W W':World} {K:Nat->Prop} {b mb rb:Nat} {id:Int} {p:Option Addr} {c:Nat} {R:List Re.Rg} {kn ki km kb kr:Nat} (h:Env w0 K b mb rb id p c R kn ki km kb kr W) (k:Ks w0 K W W'):Env w0 K b mb rb id p c R kn ki km kb kr W' :=
 ⟨⟨h.n1.1,k.cell h.n1.1 h.n1.2⟩,⟨h.i1.1,k.cell h.i1.1 h.i1.2⟩,⟨h.m1.1,k.cell h.m1.1 h.m1.2⟩,⟨h.b1.1,k.cell h.b1.1 h.b1.2⟩,⟨h.r1.1,k.cell h.r1.1 h.r1.2⟩,⟨h.ma.1,k.old h.ma.1 h.ma.2⟩,list_block h.ls k.size (fun g e _ l=>k.block g (Or.inl (h.lk g e l))),h.lk,h.few⟩
theorem Env.more {w0 W:World} {K K':Nat->Prop} {b mb rb:Nat} {id:Int} {p:Option Addr} {c:Nat} {R:List Re.Rg} {kn ki km kb kr:Nat} (h:Env w0 K b mb rb id p c R kn ki km kb kr W) (hs: ∀ j,K j->K' j):Env w0 K' b mb rb id p c R kn ki km kb kr W :=
 ⟨⟨hs _ h.n1.1,h.n1.2⟩,⟨hs _ h.i1.1,h.i1.2⟩,⟨hs _ h.m1.1,h.m1.2⟩,⟨hs _ h.b1.1,h.b1.2⟩,⟨hs _ h.r1.1,h.r1.2⟩,h.ma,h.ls,fun g e l=>hs _ (h.lk g e l),h.few⟩
set_option maxHeartbeats 2000000 in
theorem cl3_any {w0 W:World} {K:Nat->Prop} {b mb rb:Nat} {id:Int} {p:Option Addr} {c:Nat} {R:List Re.Rg} {kn ki km kb kr:Nat} (E:Env w0 K b mb rb id p c R kn ki km kb kr W) {L U:List Us} (hl:LU w0 K b L W) (fo le x j g:Nat) (hfo:K fo) (hle:K le) (hx:x=0) (hj:j<256) (cf:W.cell? ⟨fo,0,none⟩=some (.int .i64 0)) (ce:W.cell? ⟨le,0,none⟩=some (.int .i64 4)) (aa dd:Bool)
 (BC: ∀ V,Env w0 K b mb rb id p c R kn ki km kb kr V->LU w0 K b L V->Calls Tryz.prog 58 #[.int .i64 g,.int .i64 3,.int .i64 (((x*512+j:Nat):Int)*134217728),pp kn,pp ki,pp km,pp kb,pp kr] V fun e w'=>e=.returned (.tuple #[])/\LU w0 K b (L++U) w'/\Ks w0 K V w') :
 Calls Tryz.prog 59 #[.int .i64 j,.agg #[.bool true,.bool true,.bool true,.bool aa,.bool dd,.bool false,.bool false,.bool false,.int .i64 g],pp fo,pp le,pp kb,pp kr,pp kn,pp ki] W fun e w'=>e=.returned (.tuple #[])/\LU w0 K b (L++U) w'/\Ks w0 K W w':=by
 obtain ⟨y,hy⟩: ∃ y:Int,y=((x*512+j:Nat):Int)*134217728:=⟨_,rfl⟩
 rw [<- hy] at BC
 have yb:0<=y/\y<34359738368:=by omega
 have w2:IntKind.i64.wrap ((j:Int)*134217728)=y:=by rw [IntKind.wrap_i64];omega
 have w3:IntKind.i64.wrap y=y:=by rw [IntKind.wrap_i64];omega
 have d1:decide (34359738368<=y)=false:=by simp;omega
 have B1:Hid (∀ V,_->_->_):=BC
 have hb0:Below W.heap.size W (W.alloc (.cells #[.bool true,.bool true,.bool true,.bool aa,.bool dd,.bool false,.bool false,.bool false,.int .i64 g] 135)):=Go.Joins.below_alloc1 _ _
 have BB:Hid (Blk (W.alloc (.cells #[.bool true,.bool true,.bool true,.bool aa,.bool dd,.bool false,.bool false,.bool false,.int .i64 g] 135)) W.heap.size [.bool true,.bool true,.bool true,.bool aa,.bool dd,.bool false,.bool false,.bool false,.int .i64 g] 135):=Blk.made _ _ _
 have K0:Hid (Ks w0 K W (W.alloc (.cells #[.bool true,.bool true,.bool true,.bool aa,.bool dd,.bool false,.bool false,.bool false,.int .i64 g] 135))):=ks_below hl hb0
 have H0:Hid (LU w0 K b L (W.alloc (.cells #[.bool true,.bool true,.bool true,.bool aa,.bool dd,.bool false,.bool false,.bool false,.int .i64 g] 135))):=hl.below hb0
 have f0:(W.alloc (.cells #[.bool true,.bool true,.bool true,.bool aa,.bool dd,.bool false,.bool false,.bool false,.int .i64 g] 135)).cell? ⟨fo,0,none⟩=some (.int .i64 0):=(K0.out).cell hfo cf
 have l0:(W.alloc (.cells #[.bool true,.bool true,.bool true,.bool aa,.bool dd,.bool false,.bool false,.bool false,.int .i64 g] 135)).cell? ⟨le,0,none⟩=some (.int .i64 4):=(K0.out).cell hle ce
 have b0:(W.alloc (.cells #[.bool true,.bool true,.bool true,.bool aa,.bool dd,.bool false,.bool false,.bool false,.int .i64 g] 135)).cell? ⟨kb,0,none⟩=some (.func (.func 58) #[] #[pp kn,pp ki,pp km,pp kb,pp kr]):=(K0.out).cell E.b1.1 E.b1.2
 have E0:Hid (Env w0 K b mb rb id p c R kn ki km kb kr (W.alloc (.cells #[.bool true,.bool true,.bool true,.bool aa,.bool dd,.bool false,.bool false,.bool false,.int .i64 g] 135))):=E.keep K0.out
 clear hl BC E hy hfo hle cf ce hb0
 go_enter Tryz.func59,Tryz.ntmps59
 go_upto_region 1 with fail
 generalize (W.alloc (.cells #[.bool true,.bool true,.bool true,.bool aa,.bool dd,.bool false,.bool false,.bool false,.int .i64 g] 135))=V at BB K0 H0 E0 f0 l0 b0  |-
 generalize W.heap.size=q at BB |-
 have x8:=BB.out.cell 8
 simp only [List.getElem?_cons_succ,List.getElem?_cons_zero] at x8
 clear BB
 go_quiet (fail)
 rename_i nq _
 go_wp2_with fail
 have bq:Below V.heap.size V (V.drewN nq):=Bm.below_drewN (Below.refl _ _)
 have KQ:Hid (Ks w0 K V (V.drewN nq)):=ks_below H0.out bq
 refine Calls.mono (B1.out _ (E0.out.keep KQ.out) (H0.out.below bq)) ?_
 rintro e w' ⟨rfl,h1,h2⟩
 have HE:Hid (LU w0 K b (L++U) w'/\Ks w0 K W w'):=⟨h1,K0.out.trans (KQ.out.trans h2)⟩
 clear h1 h2 B1 x8 f0 l0 b0 K0 H0 E0 KQ bq
 go_wp2_with fail
 go_returns
 exact ⟨rfl,HE.out⟩
set_option maxHeartbeats 2000000 in
theorem cl2_any {w0 W:World} {K:Nat->Prop} {b mb rb:Nat} {id:Int} {p:Option Addr} {c:Nat} {R:List Re.Rg} {kn ki km kb kr:Nat} (E:Env w0 K b mb rb id p c R kn ki km kb kr W) {L U:List Us} (hl:LU w0 K b L W) (fo le x j g:Nat) (hfo:K fo) (hle:K le) (hx:x<256) (hj:j<512) (cf:W.cell? ⟨fo,0,none⟩=some (.int .i64 ((x:Int)*134217728))) (ce:W.cell? ⟨le,0,none⟩=some (.int .i64 3)) (aa dd:Bool)
 (BC: ∀ V,Env w0 K b mb rb id p c R kn ki km kb kr V->LU w0 K b L V->Calls Tryz.prog 58 #[.int .i64 g,.int .i64 2,.int .i64 (((x*512+j:Nat):Int)*262144),pp kn,pp ki,pp km,pp kb,pp kr] V fun e w'=>e=.returned (.tuple #[])/\LU w0 K b (L++U) w'/\Ks w0 K V w') :
 Calls Tryz.prog 59 #[.int .i64 j,.agg #[.bool true,.bool true,.bool true,.bool aa,.bool dd,.bool false,.bool false,.bool false,.int .i64 g],pp fo,pp le,pp kb,pp kr,pp kn,pp ki] W fun e w'=>e=.returned (.tuple #[])/\LU w0 K b (L++U) w'/\Ks w0 K W w':=by
 obtain ⟨y,hy⟩: ∃ y:Int,y=((x*512+j:Nat):Int)*262144:=⟨_,rfl⟩
 rw [<- hy] at BC
 have yb:0<=y/\y<34359738368:=by omega
 have w1:IntKind.i64.wrap ((j:Int)*262144)=(j:Int)*262144:=by rw [IntKind.wrap_i64];omega
 have w2:IntKind.i64.wrap ((x:Int)*134217728+(j:Int)*262144)=y:=by rw [IntKind.wrap_i64];omega
 have d1:decide (34359738368<=y)=false:=by simp;omega
 have B1:Hid (∀ V,_->_->_):=BC
 have hb0:Below W.heap.size W (W.alloc (.cells #[.bool true,.bool true,.bool true,.bool aa,.bool dd,.bool false,.bool false,.bool false,.int .i64 g] 135)):=Go.Joins.below_alloc1 _ _
 have BB:Hid (Blk (W.alloc (.cells #[.bool true,.bool true,.bool true,.bool aa,.bool dd,.bool false,.bool false,.bool false,.int .i64 g] 135)) W.heap.size [.bool true,.bool true,.bool true,.bool aa,.bool dd,.bool false,.bool false,.bool false,.int .i64 g] 135):=Blk.made _ _ _
 have K0:Hid (Ks w0 K W (W.alloc (.cells #[.bool true,.bool true,.bool true,.bool aa,.bool dd,.bool false,.bool false,.bool false,.int .i64 g] 135))):=ks_below hl hb0
 have H0:Hid (LU w0 K b L (W.alloc (.cells #[.bool true,.bool true,.bool true,.bool aa,.bool dd,.bool false,.bool false,.bool false,.int .i64 g] 135))):=hl.below hb0
 have f0:(W.alloc (.cells #[.bool true,.bool true,.bool true,.bool aa,.bool dd,.bool false,.bool false,.bool false,.int .i64 g] 135)).cell? ⟨fo,0,none⟩=some (.int .i64 ((x:Int)*134217728)):=(K0.out).cell hfo cf
 have l0:(W.alloc (.cells #[.bool true,.bool true,.bool true,.bool aa,.bool dd,.bool false,.bool false,.bool false,.int .i64 g] 135)).cell? ⟨le,0,none⟩=some (.int .i64 3):=(K0.out).cell hle ce
 have b0:(W.alloc (.cells #[.bool true,.bool true,.bool true,.bool aa,.bool dd,.bool false,.bool false,.bool false,.int .i64 g] 135)).cell? ⟨kb,0,none⟩=some (.func (.func 58) #[] #[pp kn,pp ki,pp km,pp kb,pp kr]):=(K0.out).cell E.b1.1 E.b1.2
 have E0:Hid (Env w0 K b mb rb id p c R kn ki km kb kr (W.alloc (.cells #[.bool true,.bool true,.bool true,.bool aa,.bool dd,.bool false,.bool false,.bool false,.int .i64 g] 135))):=E.keep K0.out
 clear hl BC E hy hfo hle cf ce hb0
 go_enter Tryz.func59,Tryz.ntmps59
 go_upto_region 1 with fail
 generalize (W.alloc (.cells #[.bool true,.bool true,.bool true,.bool aa,.bool dd,.bool false,.bool false,.bool false,.int .i64 g] 135))=V at BB K0 H0 E0 f0 l0 b0  |-
 generalize W.heap.size=q at BB |-
 have x8:=BB.out.cell 8
 simp only [List.getElem?_cons_succ,List.getElem?_cons_zero] at x8
 clear BB
 go_quiet (fail)
 rename_i nq _
 go_wp2_with fail
 have bq:Below V.heap.size V (V.drewN nq):=Bm.below_drewN (Below.refl _ _)
 have KQ:Hid (Ks w0 K V (V.drewN nq)):=ks_below H0.out bq
 refine Calls.mono (B1.out _ (E0.out.keep KQ.out) (H0.out.below bq)) ?_
 rintro e w' ⟨rfl,h1,h2⟩
 have HE:Hid (LU w0 K b (L++U) w'/\Ks w0 K W w'):=⟨h1,K0.out.trans (KQ.out.trans h2)⟩
 clear h1 h2 B1 x8 f0 l0 b0 K0 H0 E0 KQ bq
 go_wp2_with fail
 go_returns
 exact ⟨rfl,HE.out⟩
set_option maxHeartbeats 2000000 in
theorem cl1_any {w0 W:World} {K:Nat->Prop} {b mb rb:Nat} {id:Int} {p:Option Addr} {c:Nat} {R:List Re.Rg} {kn ki km kb kr:Nat} (E:Env w0 K b mb rb id p c R kn ki km kb kr W) {L U:List Us} (hl:LU w0 K b L W) (fo le x j g:Nat) (hfo:K fo) (hle:K le) (hx:x<131072) (hj:j<512) (cf:W.cell? ⟨fo,0,none⟩=some (.int .i64 ((x:Int)*262144))) (ce:W.cell? ⟨le,0,none⟩=some (.int .i64 2)) (aa dd:Bool)
 (BC: ∀ V,Env w0 K b mb rb id p c R kn ki km kb kr V->LU w0 K b L V->Calls Tryz.prog 58 #[.int .i64 g,.int .i64 1,.int .i64 (((x*512+j:Nat):Int)*512),pp kn,pp ki,pp km,pp kb,pp kr] V fun e w'=>e=.returned (.tuple #[])/\LU w0 K b (L++U) w'/\Ks w0 K V w') :
 Calls Tryz.prog 59 #[.int .i64 j,.agg #[.bool true,.bool true,.bool true,.bool aa,.bool dd,.bool false,.bool false,.bool false,.int .i64 g],pp fo,pp le,pp kb,pp kr,pp kn,pp ki] W fun e w'=>e=.returned (.tuple #[])/\LU w0 K b (L++U) w'/\Ks w0 K W w':=by
 obtain ⟨y,hy⟩: ∃ y:Int,y=((x*512+j:Nat):Int)*512:=⟨_,rfl⟩
 rw [<- hy] at BC
 have yb:0<=y/\y<34359738368:=by omega
 have w1:IntKind.i64.wrap ((j:Int)*512)=(j:Int)*512:=by rw [IntKind.wrap_i64];omega
 have w2:IntKind.i64.wrap ((x:Int)*262144+(j:Int)*512)=y:=by rw [IntKind.wrap_i64];omega
 have d1:decide (34359738368<=y)=false:=by simp;omega
 have B1:Hid (∀ V,_->_->_):=BC
 have hb0:Below W.heap.size W (W.alloc (.cells #[.bool true,.bool true,.bool true,.bool aa,.bool dd,.bool false,.bool false,.bool false,.int .i64 g] 135)):=Go.Joins.below_alloc1 _ _
 have BB:Hid (Blk (W.alloc (.cells #[.bool true,.bool true,.bool true,.bool aa,.bool dd,.bool false,.bool false,.bool false,.int .i64 g] 135)) W.heap.size [.bool true,.bool true,.bool true,.bool aa,.bool dd,.bool false,.bool false,.bool false,.int .i64 g] 135):=Blk.made _ _ _
 have K0:Hid (Ks w0 K W (W.alloc (.cells #[.bool true,.bool true,.bool true,.bool aa,.bool dd,.bool false,.bool false,.bool false,.int .i64 g] 135))):=ks_below hl hb0
 have H0:Hid (LU w0 K b L (W.alloc (.cells #[.bool true,.bool true,.bool true,.bool aa,.bool dd,.bool false,.bool false,.bool false,.int .i64 g] 135))):=hl.below hb0
 have f0:(W.alloc (.cells #[.bool true,.bool true,.bool true,.bool aa,.bool dd,.bool false,.bool false,.bool false,.int .i64 g] 135)).cell? ⟨fo,0,none⟩=some (.int .i64 ((x:Int)*262144)):=(K0.out).cell hfo cf
 have l0:(W.alloc (.cells #[.bool true,.bool true,.bool true,.bool aa,.bool dd,.bool false,.bool false,.bool false,.int .i64 g] 135)).cell? ⟨le,0,none⟩=some (.int .i64 2):=(K0.out).cell hle ce
 have b0:(W.alloc (.cells #[.bool true,.bool true,.bool true,.bool aa,.bool dd,.bool false,.bool false,.bool false,.int .i64 g] 135)).cell? ⟨kb,0,none⟩=some (.func (.func 58) #[] #[pp kn,pp ki,pp km,pp kb,pp kr]):=(K0.out).cell E.b1.1 E.b1.2
 have E0:Hid (Env w0 K b mb rb id p c R kn ki km kb kr (W.alloc (.cells #[.bool true,.bool true,.bool true,.bool aa,.bool dd,.bool false,.bool false,.bool false,.int .i64 g] 135))):=E.keep K0.out
 clear hl BC E hy hfo hle cf ce hb0
 go_enter Tryz.func59,Tryz.ntmps59
 go_upto_region 1 with fail
 generalize (W.alloc (.cells #[.bool true,.bool true,.bool true,.bool aa,.bool dd,.bool false,.bool false,.bool false,.int .i64 g] 135))=V at BB K0 H0 E0 f0 l0 b0  |-
 generalize W.heap.size=q at BB |-
 have x8:=BB.out.cell 8
 simp only [List.getElem?_cons_succ,List.getElem?_cons_zero] at x8
 clear BB
 go_quiet (fail)
 rename_i nq _
 go_wp2_with fail
 have bq:Below V.heap.size V (V.drewN nq):=Bm.below_drewN (Below.refl _ _)
 have KQ:Hid (Ks w0 K V (V.drewN nq)):=ks_below H0.out bq
 refine Calls.mono (B1.out _ (E0.out.keep KQ.out) (H0.out.below bq)) ?_
 rintro e w' ⟨rfl,h1,h2⟩
 have HE:Hid (LU w0 K b (L++U) w'/\Ks w0 K W w'):=⟨h1,K0.out.trans (KQ.out.trans h2)⟩
 clear h1 h2 B1 x8 f0 l0 b0 K0 H0 E0 KQ bq
 go_wp2_with fail
 go_returns
 exact ⟨rfl,HE.out⟩
set_option maxHeartbeats 2000000 in
theorem cltop_any {w0 W:World} {K:Nat->Prop} {b:Nat} {L:List Us} (hl:LU w0 K b L W) (kb kr kn ki fo le:Nat) (hfo:K fo) (hle:K le) (cf:W.cell? ⟨fo,0,none⟩=some (.int .i64 0)) (ce:W.cell? ⟨le,0,none⟩=some (.int .i64 4)) (r u a d lg gl nn:Bool) (fr:Int) :
 Calls Tryz.prog 59 #[.int .i64 256,.agg #[.bool true,.bool r,.bool u,.bool a,.bool d,.bool lg,.bool gl,.bool nn,.int .i64 fr],pp fo,pp le,pp kb,pp kr,pp kn,pp ki] W fun e w'=>e=.returned (.tuple #[])/\LU w0 K b L w'/\Ks w0 K W w':=by
 have hb0:Below W.heap.size W (W.alloc (.cells #[.bool true,.bool r,.bool u,.bool a,.bool d,.bool lg,.bool gl,.bool nn,.int .i64 fr] 135)):=Go.Joins.below_alloc1 _ _
 have BB:Hid (Blk (W.alloc (.cells #[.bool true,.bool r,.bool u,.bool a,.bool d,.bool lg,.bool gl,.bool nn,.int .i64 fr] 135)) W.heap.size [.bool true,.bool r,.bool u,.bool a,.bool d,.bool lg,.bool gl,.bool nn,.int .i64 fr] 135):=Blk.made _ _ _
 have K0:Hid (Ks w0 K W (W.alloc (.cells #[.bool true,.bool r,.bool u,.bool a,.bool d,.bool lg,.bool gl,.bool nn,.int .i64 fr] 135))):=ks_below hl hb0
 have H0:Hid (LU w0 K b L (W.alloc (.cells #[.bool true,.bool r,.bool u,.bool a,.bool d,.bool lg,.bool gl,.bool nn,.int .i64 fr] 135))):=hl.below hb0
 have f0:(W.alloc (.cells #[.bool true,.bool r,.bool u,.bool a,.bool d,.bool lg,.bool gl,.bool nn,.int .i64 fr] 135)).cell? ⟨fo,0,none⟩=some (.int .i64 0):=K0.out.cell hfo cf
 have l0:(W.alloc (.cells #[.bool true,.bool r,.bool u,.bool a,.bool d,.bool lg,.bool gl,.bool nn,.int .i64 fr] 135)).cell? ⟨le,0,none⟩=some (.int .i64 4):=(K0.out).cell hle ce
 clear hl cf ce hfo hle hb0
 go_enter Tryz.func59,Tryz.ntmps59
 go_upto_region 1 with fail
 generalize (W.alloc (.cells #[.bool true,.bool r,.bool u,.bool a,.bool d,.bool lg,.bool gl,.bool nn,.int .i64 fr] 135))=V at BB K0 H0 f0 l0  |-
 generalize W.heap.size=q at BB |-
 have x8:=BB.out.cell 8
 simp only [List.getElem?_cons_succ,List.getElem?_cons_zero] at x8
 clear BB
 go_quiet (fail)
 rename_i nq _
 go_wp2_with fail
 go_returns
 exact ⟨rfl,H0.out.below (Bm.below_drewN (Below.refl _ _)),K0.out.trans (ks_below H0.out (Bm.below_drewN (Below.refl _ _)))⟩
set_option maxHeartbeats 2000000 in
theorem cl0_any {w0 W:World} {K:Nat->Prop} {b mb rb:Nat} {id:Int} {p:Option Addr} {c:Nat} {R:List Re.Rg} {kn ki km kb kr:Nat} (E:Env w0 K b mb rb id p c R kn ki km kb kr W) {L:List Us} (hl:LU w0 K b L W) (hL:L.length<=1000000) (fo le x j:Nat) (hfo:K fo) (hle:K le) (hx:x<67108864) (hj:j<512) (cf:W.cell? ⟨fo,0,none⟩=some (.int .i64 ((x:Int)*512))) (ce:W.cell? ⟨le,0,none⟩=some (.int .i64 1)) (r u a d lg gl nn:Bool) (fr:Int)
 (hf:(Re.findR R ((x*512+j:Nat):Int)).2=true) (hk:(Re.findR R ((x*512+j:Nat):Int)).1.kd=0) :
 Calls Tryz.prog 59 #[.int .i64 j,.agg #[.bool true,.bool r,.bool u,.bool a,.bool d,.bool lg,.bool gl,.bool nn,.int .i64 fr],pp fo,pp le,pp kb,pp kr,pp kn,pp ki] W fun e w'=>e=.returned (.tuple #[])/\LU w0 K b (L++[(fr,3,id)]) w'/\Ks w0 K W w':=by
 obtain ⟨y,hy⟩: ∃ y:Int,y=((x*512+j:Nat):Int):=⟨_,rfl⟩
 rw [<- hy] at hf hk
 have few:=E.few
 have OC:Hid (∀ V,Re.IsL V 0 p R->_):=fun V hV=>own_any p c R few y hf hk V hV
 clear hf hk
 have yb:0<=y/\y<34359738368:=by omega
 have w2:IntKind.i64.wrap ((x:Int)*512+(j:Int))=y:=by rw [IntKind.wrap_i64];omega
 have d1:decide (34359738368<=y)=false:=by simp;omega
 have NC:Hid (∀ V,LU w0 K b L V->_):=fun V hV=>note_any hV hL fr 3 id
 have hb0:Below W.heap.size W (W.alloc (.cells #[.bool true,.bool r,.bool u,.bool a,.bool d,.bool lg,.bool gl,.bool nn,.int .i64 fr] 135)):=Go.Joins.below_alloc1 _ _
 have BB:Hid (Blk (W.alloc (.cells #[.bool true,.bool r,.bool u,.bool a,.bool d,.bool lg,.bool gl,.bool nn,.int .i64 fr] 135)) W.heap.size [.bool true,.bool r,.bool u,.bool a,.bool d,.bool lg,.bool gl,.bool nn,.int .i64 fr] 135):=Blk.made _ _ _
 have K0:Hid (Ks w0 K W (W.alloc (.cells #[.bool true,.bool r,.bool u,.bool a,.bool d,.bool lg,.bool gl,.bool nn,.int .i64 fr] 135))):=ks_below hl hb0
 have H0:Hid (LU w0 K b L (W.alloc (.cells #[.bool true,.bool r,.bool u,.bool a,.bool d,.bool lg,.bool gl,.bool nn,.int .i64 fr] 135))):=hl.below hb0
 have f0:(W.alloc (.cells #[.bool true,.bool r,.bool u,.bool a,.bool d,.bool lg,.bool gl,.bool nn,.int .i64 fr] 135)).cell? ⟨fo,0,none⟩=some (.int .i64 ((x:Int)*512)):=K0.out.cell hfo cf
 have l0:(W.alloc (.cells #[.bool true,.bool r,.bool u,.bool a,.bool d,.bool lg,.bool gl,.bool nn,.int .i64 fr] 135)).cell? ⟨le,0,none⟩=some (.int .i64 1):=(K0.out).cell hle ce
 have r0:(W.alloc (.cells #[.bool true,.bool r,.bool u,.bool a,.bool d,.bool lg,.bool gl,.bool nn,.int .i64 fr] 135)).cell? ⟨kr,0,none⟩=some (.slice p R.length c):=(K0.out).cell E.r1.1 E.r1.2
 have E0:Hid (Env w0 K b mb rb id p c R kn ki km kb kr (W.alloc (.cells #[.bool true,.bool r,.bool u,.bool a,.bool d,.bool lg,.bool gl,.bool nn,.int .i64 fr] 135))):=E.keep K0.out
 clear hl E hL hy cf ce hfo hle hb0 few
 go_enter Tryz.func59,Tryz.ntmps59
 go_upto_region 1 with fail
 generalize (W.alloc (.cells #[.bool true,.bool r,.bool u,.bool a,.bool d,.bool lg,.bool gl,.bool nn,.int .i64 fr] 135))=V at BB K0 H0 E0 f0 l0 r0  |-
 generalize W.heap.size=q at BB |-
 have x8:=BB.out.cell 8
 simp only [List.getElem?_cons_succ,List.getElem?_cons_zero] at x8
 have lq:=BB.out.lt
 clear BB
 go_quiet (fail)
 rename_i nq _
 go_wp2_with fail
 refine Calls.mono (OC.out _ (E0.out.ls.below (Bm.below_drewN (Below.refl _ _)))) ?_
 rintro e u1 ⟨rfl,hb⟩
 have bV:Below V.heap.size V u1:=(Bm.below_drewN (Below.refl _ V)).trans hb
 have KV:Hid (Ks w0 K V u1):=ks_below H0.out bV
 have H1:Hid (LU w0 K b L u1/\Ks w0 K W u1):=⟨H0.out.below bV,K0.out.trans KV.out⟩
 have E1:=E0.out.keep KV.out
 have ci:=E1.i1.2
 have cn:=E1.n1.2
 have y8:u1.cell? ⟨q,8,none⟩=some (.int .i64 fr):=(World.cell?_of_block (w:=V) (a:=⟨q,8,none⟩) (bV.block q lq)).trans x8
 clear hb OC f0 l0 r0 E1 E0 K0 H0 KV bV x8
 go_wp2_with fail
 refine Calls.mono (NC.out _ H1.out.1) ?_
 rintro e u2 ⟨rfl,h1,h2⟩
 have HE:Hid (LU w0 K b (L++[(fr,3,id)]) u2/\Ks w0 K W u2):=⟨h1,H1.out.2.trans h2⟩
 clear h1 h2 NC H1 ci cn y8
 go_wp2_with fail
 go_returns
 exact ⟨rfl,HE.out⟩
end Go.Proofs.YtajfbieacfjhnaaGreatDoor.Au
