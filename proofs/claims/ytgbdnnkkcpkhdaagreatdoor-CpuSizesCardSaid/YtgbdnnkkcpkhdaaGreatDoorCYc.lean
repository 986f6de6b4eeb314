import Derived.Test.YtgbdnnkkcpkhdaaGreatDoorKZc
import Derived.Test.YtgbdnnkkcpkhdaaGreatDoorCXc
set_option linter.unusedSimpArgs false
set_option linter.unusedVariables false
set_option maxRecDepth 8000
set_option maxHeartbeats 4000000
open Go.ChangeShapes Go.WideShapes Go.ChangeAt Go.RowKit Go.Maps
open Go.Proofs.YtgbdnnkkcpkhdaaGreatDoor.Tt
namespace Go.Proofs.YtgbdnnkkcpkhdaaGreatDoor.Sp
section
variable {Y:Nat->Prop} {O:Nat->Nat} {n:Nat} {W w':World} {cb:Nat} {M:Mb} {m:Pm} {s:Ps} {T:Nat->Tl.Ln} {S:Pc.Tg} {a:Sr} {J R:Nat}
def Frm (Y:Nat->Prop) (O:Nat->Nat) (W:World) (cb:Nat) (M:Mb) (m:Pm) (s:Ps) (a:Sr) (J R:Nat) (p f:Nat) (w':World):Prop :=
 ∃ (n':Nat) (s':Ps) (T':Nat->Tl.Ln) (S':Pc.Tg) (a':Sr),a'.lf p=some ⟨f,true,true,false⟩/\Cw Y O n' w' cb M m s' T' S' a' J R/\Kx Y W w'/\ ∀ f0 B,Dt m s a p f0 B->Dt m s' a' p f0 B
theorem Cw.touch0 (h:Cw Y O n W cb M m s T S a J R):Calls Tryz.prog 59 #[pp M.mb,.int .i64 1,.int .i64 (2:Nat),av false] W (re (.tuple #[.int .i64 0,.int .i64 4,.int .i64 9]) W):=by
 have e0:=h.rg.2 2 (Nat.le_refl _)
 have fz:Re.findR a.L 2=(⟨0,0,false,false,false,0⟩,false):=by
  rw [h.rg.1];rfl
 have q:=touch_none h.mc 2 false true false 0 0 0 0 false false false false false false false (by rw [h.id];exact one_wf) (by rw [e0];rfl) fz
 rw [h.id] at q
 exact q
theorem Cw.ctouch0 (h:Cw Y O n W cb M m s T S a J R) (A z:Int) (a0:0<=A) (ha:A / 4096=(2:Nat)) :
 Calls Tryz.prog 35 #[pp cb,nm A z,av false] W fun e w'=>e=.panicked [refc A 4 9]/\bc W w':=by
 have PC:Hid (∀ w:World,_):=fun w=>npage_any A z 2 a0 ha (by omega) w
 have G0:Hid (Fx Y Y W [(W.heap.size+1,abl false,84),(W.heap.size,nbl A z,80)] O n ((W.alloc (.cells (sf1 1 A z) 80)).alloc (.cells (sn false true false) 84)) cb M m s T S a J R/\bc W ((W.alloc (.cells (sf1 1 A z) 80)).alloc (.cells (sn false true false) 84))):=by
  have q:=(h.fx.box (nbl A z) 80).box (abl false) 84
  rw [World.size_alloc] at q
  exact ⟨q,below_then baa baa⟩
 clear h
 go_enter Tryz.func35,Tryz.ntmps35
 go_upto_region 1 with fail
 generalize (W.alloc (.cells (sf1 1 A z) 80)).alloc (.cells (sn false true false) 84)=W0 at G0 |-
 obtain ⟨r,hr⟩: ∃ r,r=W.heap.size+1:=⟨_,rfl⟩
 rw [<- hr] at G0 |-
 clear hr
 obtain ⟨q,hq⟩: ∃ q,q=W.heap.size:=⟨_,rfl⟩
 have HB:Hid (bc W W0):=G0.out.2
 have G1:Hid _:=G0.out.1
 clear G0
 rw [<- hq] at G1 |-
 clear hq
 refine hda (fun cw=>Ss cw cb M m q r A z false) (((G1.out.below (below_drew (Below.refl _ _))).ss m1 m0)) fun hHeld=> ?_
 have U0:Hid (Fx Y Y W [(r,abl false,84),(q,nbl A z,80)] O n W0.drew cb M m s T S a J R/\bc W W0.drew):=⟨G1.out.below (below_drew (Below.refl _ _)),below_drew HB.out⟩
 clear G1 HB
 generalize W0.drew=U at hHeld U0 |-
 refine tma 0 10 rfl ?_
 try simp only [Act.put,zaa,zba,zca]
 refine tma 1 11 rfl ?_
 try simp only [Act.put,zaa,zba,zca]
 refine tma 2 12 rfl ?_
 try simp only [Act.put,zaa,zba,zca]
 refine tla 3 13 (pp M.mb) rfl ?_ ?_
 . intro w hSw;(try dsimp only at hSw);have r0:=hSw.c;(try go_simp);(try simp [*])
 try simp only [Act.put,zaa,zba,zca]
 refine tma 4 14 rfl ?_
 try simp only [Act.put,zaa,zba,zca]
 refine tla 5 15 (.int .i64 1) rfl ?_ ?_
 . intro w hSw;(try dsimp only at hSw);have r0:=Blk.cell hSw.q 0;(try go_simp);(try simp [*])
 try simp only [Act.put,zaa,zba,zca]
 refine tla 6 16 (nm A z) rfl ?_ ?_
 . intro w hSw;(try dsimp only at hSw);have r0:=Blk.cell hSw.q 0;have r1:=Blk.cell hSw.q 1;have r2:=Blk.cell hSw.q 2;(try go_simp);(try simp [*])
 try simp only [Act.put,zaa,zba,zca]
 refine tla 8 18 (av false) rfl ?_ ?_
 . intro w hSw;(try dsimp only at hSw);have r0:=Blk.cell hSw.r 0;have r1:=Blk.cell hSw.r 1;have r2:=Blk.cell hSw.r 2;(try go_simp);(try simp [*])
 try simp only [Act.put,zaa,zba,zca]
 refine rda 7 ⟨some 17,_,_,_,_,none⟩ rfl fun K hK=> ?_
 go_simp
 go_wp2_with (go_at_call 33;refine Calls.mono (PC.out _) ?_;rintro e u1 ⟨rfl,hb1⟩)
 have U1:Hid (Fx Y Y W [(r,abl false,84),(q,nbl A z,80)] O n u1 cb M m s T S a J R/\bc W u1):=⟨U0.out.1.below hb1,below_then U0.out.2 hb1⟩
 refine hK.out _ _ (U1.out.1.ss m1 m0) ?_
 clear hK K hHeld hb1 U0
 intro hHeld
 try simp only [Act.put,zaa,zba,zca]
 refine rda 9 ⟨some 19,_,_,_,_,none⟩ rfl fun K hK=> ?_
 go_simp
 go_wp2_with (go_at_call 59;refine Calls.mono (U1.out.1.cw.1.touch0) ?_;rintro e u2 ⟨rfl,hb2⟩)
 have U2:Hid (Fx Y Y W [(r,abl false,84),(q,nbl A z,80)] O n u2 cb M m s T S a J R/\bc W u2):=⟨U1.out.1.below hb2,below_then U1.out.2 hb2⟩
 refine hK.out _ _ (U2.out.1.ss m1 m0) ?_
 clear hK K hHeld hb2 U1
 intro hHeld
 try simp only [Act.put,zaa,zba,zca]
 refine tma 10 9 rfl ?_
 try simp only [Act.put,zaa,zba,zca]
 refine tma 11 20 rfl ?_
 try simp only [Act.put,zaa,zba,zca]
 refine tma 12 21 rfl ?_
 try simp only [Act.put,zaa,zba,zca]
 refine tma 13 22 rfl ?_
 try simp only [Act.put,zaa,zba,zca]
 refine tma 14 6 rfl ?_
 try simp only [Act.put,zaa,zba,zca]
 refine tma 15 7 rfl ?_
 try simp only [Act.put,zaa,zba,zca]
 refine tma 16 8 rfl ?_
 try simp only [Act.put,zaa,zba,zca]
 clear hHeld
 refine wpAnyH_done ka ?_ _
 refine NoPanic.normal ?_
 have x1:u2.cell? ⟨q,1,none⟩=some (.int .u64 A):=(U2.out.1.blk m1).cell 1
 have HE:Hid (bc W u2):=U2.out.2
 clear U2
 go_wp2_with fail
 exact ⟨rfl,rfl,HE.out⟩
theorem Cw.frame (h:Cw Y O n W cb M m s T S a J R) (hJ:J<800000) {p:Nat} (hp:p<=2) {R':Nat} (x:Bool) (hr:p<2->(a.lf p=none/\R=R'+1)\/((∃ f:Nat,a.lf p=some ⟨f,true,true,false⟩)/\R=R')) (hx:p=2->x=false) (A z:Int) (a0:0<=A) (ha:A / 4096=p) (y:Int) (hy: -1<=y/\y<=1) :
 Calls Tryz.prog 18 #[pp cb,nm A z,av x,.int .i64 y] W fun e w'=>(p<2/\ ∃ f:Nat,e=.returned (.int .i64 f)/\Frm Y O W cb M m s a (J+3) R' p f w')\/(p=2/\e=.panicked [refc A 4 9]/\Kx Y W w'):=by
 have PC:Hid (∀ w:World,_):=fun w=>npage_any A z p a0 ha (by omega) w
 have TC:Hid (∃ (tg:Int) (n':Nat) (T':Nat->Tl.Ln) (S':Pc.Tg),((0<=tg/\tg<4096)/\S'.T 1=some tg)/\ ∀ (w:World) (Y':Nat->Prop),Cw Y' O n w cb M m s T S a J R->Calls Tryz.prog 31 #[pp M.mb,.int .i64 1] w fun e w'=>e=.returned (.int .i64 tg)/\Cw Y' O n' w' cb M m s T' S' a (J+1) R/\Kx Y' w w'):=⟨_,_,_,_,tag_is h.gd,fun w Y' hc=>hc.tag (by omega)⟩
 obtain ⟨tg,n',T',S',tgs,tc⟩:=TC.out
 have TG:Hid _:=tgs
 have TCC:Hid _:=tc
 have HR:Hid ((p<2->(a.lf p=none/\R=R'+1)\/((∃ f:Nat,a.lf p=some ⟨f,true,true,false⟩)/\R=R'))/\p<=2/\J<800000/\0<=A/\A / 4096=p):=⟨hr,hp,hJ,a0,ha⟩
 have HX2:Hid (p=2->x=false):=hx
 have WY:Hid ((-1<=y/\y<=1)):=hy
 have G0:Hid (Fx Y Y W [(W.heap.size+1,abl x,84),(W.heap.size,nbl A z,80)] O n ((W.alloc (.cells (sf1 1 A z) 80)).alloc (.cells (sn x true false) 84)) cb M m s T S a J R):=by
  have q:=(h.fx.box (nbl A z) 80).box (abl x) 84
  rw [World.size_alloc] at q
  exact q
 obtain ⟨l,hl⟩: ∃ l,l=(Tl.findT T' tg p).1:=⟨_,rfl⟩
 obtain ⟨zz,hzz⟩: ∃ z,z=(Tl.findT T' tg p).2:=⟨_,rfl⟩
 have FC:Hid (∀ (Y':Nat->Prop) (w:World),Cw Y' O n' w cb M m s T' S' a (J+1) R->Calls Tryz.prog 32 (sf (pp M.tl) tg p) w (re (.tuple #[l.val,.bool zz]) w)):=fun Y' w hw=>by
  rw [hl,hzz];exact hw.find tg p
 have FD:Hid (∀ (Y':Nat->Prop) (w:World),Cw Y' O n' w cb M m s T' S' a (J+1) R->zz=true-> ∃ v d,a.lf p=some v/\l=⟨true,tg,p,v.f,v.w,v.u,v.x,false,d⟩):=fun Y' w hw hz=>by
  rw [hl];rw [hzz] at hz;exact hw.found tgs.2 hz
 clear h hp hr hx hJ hy a0 ha TC tc tgs hl hzz
 obtain ⟨l1,l2,l3,l4,l5,l6,l7,l8,l9⟩:=l
 go_enter Tryz.func18,Tryz.ntmps18
 go_upto_region 1 with fail
 generalize (W.alloc (.cells (sf1 1 A z) 80)).alloc (.cells (sn x true false) 84)=W0 at G0 |-
 obtain ⟨r,hr⟩: ∃ r,r=W.heap.size+1:=⟨_,rfl⟩
 rw [<- hr] at G0 |-
 clear hr
 obtain ⟨q,hq⟩: ∃ q,q=W.heap.size:=⟨_,rfl⟩
 rw [<- hq] at G0 |-
 clear hq
 refine hda (fun cw=>Ss cw cb M m q r A z x) (((G0.out.below (below_drew (Below.refl _ _))).ss m1 m0)) fun hHeld=> ?_
 have U0:Hid (Fx Y Y W [(r,abl x,84),(q,nbl A z,80)] O n W0.drew cb M m s T S a J R):=G0.out.below (below_drew (Below.refl _ _))
 clear G0
 generalize W0.drew=U at hHeld U0 |-
 refine tma 0 17 rfl ?_
 try simp only [Act.put,zaa,zba,zca]
 refine tma 1 18 rfl ?_
 try simp only [Act.put,zaa,zba,zca]
 refine tma 2 19 rfl ?_
 try simp only [Act.put,zaa,zba,zca]
 refine tla 3 20 (pp M.mb) rfl ?_ ?_
 . intro w hSw;(try dsimp only at hSw);have r0:=hSw.c;(try go_simp);(try simp [*])
 try simp only [Act.put,zaa,zba,zca]
 refine tma 4 21 rfl ?_
 try simp only [Act.put,zaa,zba,zca]
 refine tla 5 22 (.int .i64 1) rfl ?_ ?_
 . intro w hSw;(try dsimp only at hSw);have r0:=Blk.cell hSw.q 0;(try go_simp);(try simp [*])
 try simp only [Act.put,zaa,zba,zca]
 refine rda 6 ⟨some 23,_,_,_,_,none⟩ rfl fun K hK=> ?_
 go_simp
 go_wp2_with (go_at_call 30;refine Calls.mono (U0.out.cw.1.root) ?_;rintro e u1 ⟨rfl,hb1⟩)
 have U1:Hid (Fx Y Y W [(r,abl x,84),(q,nbl A z,80)] O n u1 cb M m s T S a J R):=U0.out.below hb1
 refine hK.out _ _ (U1.out.ss m1 m0) ?_
 clear hK K hHeld hb1 U0
 intro hHeld
 try simp only [Act.put,zaa,zba,zca]
 refine tma 7 16 rfl ?_
 try simp only [Act.put,zaa,zba,zca]
 refine tma 8 24 rfl ?_
 try simp only [Act.put,zaa,zba,zca]
 refine tma 9 25 rfl ?_
 try simp only [Act.put,zaa,zba,zca]
 refine tma 10 9 rfl ?_
 try simp only [Act.put,zaa,zba,zca]
 refine tma 11 10 rfl ?_
 try simp only [Act.put,zaa,zba,zca]
 clear hHeld
 refine wpAnyH_done ka ?_ _
 refine NoPanic.normal ?_
 go_upto_region 4 with fail
 refine hda (fun cw=>Ss cw cb M m q r A z x) (((U1.out.below (below_drew (Below.refl _ _))).ss m1 m0)) fun hHeld=> ?_
 have U2:Hid (Fx Y Y W [(r,abl x,84),(q,nbl A z,80)] O n u1.drew cb M m s T S a J R):=U1.out.below (below_drew (Below.refl _ _))
 clear U1
 generalize u1.drew=U at hHeld U2 |-
 refine tma 0 30 rfl ?_
 try simp only [Act.put,zaa,zba,zca]
 refine tma 1 31 rfl ?_
 try simp only [Act.put,zaa,zba,zca]
 refine tma 2 32 rfl ?_
 try simp only [Act.put,zaa,zba,zca]
 refine tla 3 33 (pp M.mb) rfl ?_ ?_
 . intro w hSw;(try dsimp only at hSw);have r0:=hSw.c;(try go_simp);(try simp [*])
 try simp only [Act.put,zaa,zba,zca]
 refine tma 4 34 rfl ?_
 try simp only [Act.put,zaa,zba,zca]
 refine tla 5 35 (.int .i64 1) rfl ?_ ?_
 . intro w hSw;(try dsimp only at hSw);have r0:=Blk.cell hSw.q 0;(try go_simp);(try simp [*])
 try simp only [Act.put,zaa,zba,zca]
 refine rda 6 ⟨some 36,_,_,_,_,none⟩ rfl fun K hK=> ?_
 go_simp
 go_wp2_with (go_at_call 31;refine Calls.mono (U2.out.step (fun Y' hc=>TCC.out _ Y' hc)) ?_;rintro e u3 ⟨rfl,h1⟩)
 have U3:Hid (Fx Y Y W [(r,abl x,84),(q,nbl A z,80)] O n' u3 cb M m s T' S' a (J+1) R):=h1
 refine hK.out _ _ (U3.out.ss m1 m0) ?_
 clear hK K hHeld h1 U2 TCC
 intro hHeld
 try simp only [Act.put,zaa,zba,zca]
 refine tma 7 11 rfl ?_
 try simp only [Act.put,zaa,zba,zca]
 clear hHeld
 refine wpAnyH_done ka ?_ _
 refine NoPanic.normal ?_
 go_upto_region 5 with fail
 go_cut [10,12] (fun zv v V=>zv=.bool zz/\ ∃ lb:Nat,v=.pointer (some ⟨lb,0,none⟩)/\Hid (Fx Y Y W [(lb,(sx l1 l2 l3 l4 l5 l6 l7 l8 l9),107),(r,abl x,84),(q,nbl A z,80)] O n' V cb M m s T' S' a (J+1) R))
 case first =>
  refine hda (fun cw=>Ss cw cb M m q r A z x) (((U3.out.below (below_drew (Below.refl _ _))).ss m1 m0)) fun hHeld=> ?_
  have HX:Hid (Fx Y Y W [(r,abl x,84),(q,nbl A z,80)] O n' u3.drew cb M m s T' S' a (J+1) R):=U3.out.below (below_drew (Below.refl _ _))
  clear U3
  generalize u3.drew=U at hHeld HX |-
  refine tma 0 38 rfl ?_
  try simp only [Act.put,zaa,zba,zca]
  refine tma 1 39 rfl ?_
  try simp only [Act.put,zaa,zba,zca]
  refine tma 2 40 rfl ?_
  try simp only [Act.put,zaa,zba,zca]
  refine tla 3 41 (pp M.mb) rfl ?_ ?_
  . intro w hSw;(try dsimp only at hSw);have r:=hSw.c;(try go_simp);(try simp [*])
  try simp only [Act.put,zaa,zba,zca]
  refine tma 4 42 rfl ?_
  try simp only [Act.put,zaa,zba,zca]
  refine tma 5 43 rfl ?_
  try simp only [Act.put,zaa,zba,zca]
  refine tla 6 44 (pp M.tl) rfl ?_ ?_
  . intro w hSw;(try dsimp only at hSw);have r:=hSw.l;(try go_simp);(try simp [*])
  try simp only [Act.put,zaa,zba,zca]
  refine tma 7 45 rfl ?_
  try simp only [Act.put,zaa,zba,zca]
  refine tla 8 46 (nm A z) rfl ?_ ?_
  . intro w hSw;(try dsimp only at hSw);have r0:=hSw.q.cell 0;have r1:=hSw.q.cell 1;have r2:=hSw.q.cell 2;(try go_simp);(try simp [*])
  try simp only [Act.put,zaa,zba,zca]
  refine wpAnyH_ready (rs:=[9,14]) ka (by simp) ?_
  refine AllReadyH.cons (o:=⟨some 47,_,_,_,_,none⟩) rfl (fun K hK=> ?_) (AllReadyH.cons (o:=⟨some 12,_,_,_,_,none⟩) rfl (fun K hK=> ?_) AllReadyH.nil)
  . go_simp
    go_wp2_with (go_at_call 33;refine Calls.mono (PC.out _) ?_;rintro e u1 ⟨rfl,hb⟩)
    have HX2:Hid (Fx Y Y W [(r,abl x,84),(q,nbl A z,80)] O n' u1 cb M m s T' S' a (J+1) R):=HX.out.below hb
    clear HX hb
    have HX:=HX2
    clear HX2
    refine hK.out _ _ (HX.out.ss m1 m0) ?_
    clear hK K hHeld
    intro hHeld
    try simp only [Act.put,zaa,zba,zca]
    refine wpAnyH_ready (rs:=[10,14]) ka (by simp) ?_
    refine AllReadyH.cons (o:=⟨some 48,_,_,_,_,none⟩) rfl (fun K hK=> ?_) (AllReadyH.cons (o:=⟨some 12,_,_,_,_,none⟩) rfl (fun K hK=> ?_) AllReadyH.nil)
    . go_simp
      go_wp2_with (go_at_call 32;refine Calls.mono (FC.out _ _ HX.out.cw.1) ?_;rintro e u2 ⟨rfl,hb⟩)
      have HX2:Hid (Fx Y Y W [(r,abl x,84),(q,nbl A z,80)] O n' u2 cb M m s T' S' a (J+1) R):=HX.out.below hb
      clear HX hb
      have HX:=HX2
      clear HX2
      refine hK.out _ _ (HX.out.ss m1 m0) ?_
      clear hK K hHeld
      intro hHeld
      try simp only [Act.put,zaa,zba,zca]
      refine tma 11 37 rfl ?_
      try simp only [Act.put,zaa,zba,zca]
      refine tma 12 49 rfl ?_
      try simp only [Act.put,zaa,zba,zca]
      refine tma 13 50 rfl ?_
      try simp only [Act.put,zaa,zba,zca]
      refine rda 14 ⟨some 12,_,_,_,_,none⟩ rfl fun K hK=> ?_
      have HX2:Hid (Fx Y Y W [(u2.heap.size,sm1,107),(r,abl x,84),(q,nbl A z,80)] O n' (u2.alloc (.cells sl1 107)) cb M m s T' S' a (J+1) R):=HX.out.box sm1 107
      clear HX
      have HX:=HX2
      clear HX2
      go_simp
      refine hK.out _ _ (HX.out.ss m2 m1) (fun hHeld2=> ?_)
      clear hK K hHeld
      generalize u2.alloc (.cells sl1 107)=u3 at hHeld2 HX |-
      generalize u2.heap.size=lb at HX |-
      have hHeld:=hHeld2
      clear hHeld2
      try simp only [Act.put,zaa,zba,zca]
      refine rda 15 ⟨none,_,_,_,_,none⟩ rfl fun K hK=> ?_
      refine wanted_mp rfl ?_
      have th:u3.there lb 0 9:=(HX.out.blk m0).there
      refine wp_store_mid _ _ _ rfl lb 0 (sy l1 l2 l3 l4 l5 l6 l7 l8 l9) rfl rfl th ka kr ?_
      (try simp only [List.toList_toArray])
      have HX2:Hid (Fx Y Y W [(lb,(sx l1 l2 l3 l4 l5 l6 l7 l8 l9),107),(r,abl x,84),(q,nbl A z,80)] O n' (u3.setCells lb 0 (sx l1 l2 l3 l4 l5 l6 l7 l8 l9)) cb M m s T' S' a (J+1) R):=HX.out.put [] rfl
      clear HX th
      have HX:=HX2
      clear HX2
      refine hK.out _ _ (HX.out.ss m2 m1) (fun hHeld2=> ?_)
      clear hK K hHeld
      generalize u3.setCells lb 0 (sx l1 l2 l3 l4 l5 l6 l7 l8 l9)=u4 at hHeld2 HX |-
      have hHeld:=hHeld2
      clear hHeld2
      try simp only [Act.put,zaa,zba,zca]
      refine tma 16 10 rfl ?_
      try simp only [Act.put,zaa,zba,zca]
      clear hHeld
      refine wpAnyH_done ka ?_ _
      refine NoPanic.normal ?_
      go_wp2_with fail
      go_meet
      exact ⟨rfl,lb,rfl,HX⟩
    . have HX2:Hid (Fx Y Y W [(u1.heap.size,sm1,107),(r,abl x,84),(q,nbl A z,80)] O n' (u1.alloc (.cells sl1 107)) cb M m s T' S' a (J+1) R):=HX.out.box sm1 107
      clear HX
      have HX:=HX2
      clear HX2
      go_simp
      refine hK.out _ _ (HX.out.ss m2 m1) (fun hHeld2=> ?_)
      clear hK K hHeld
      generalize u1.alloc (.cells sl1 107)=u2 at hHeld2 HX |-
      generalize u1.heap.size=lb at HX |-
      have hHeld:=hHeld2
      clear hHeld2
      try simp only [Act.put,zaa,zba,zca]
      refine rda 10 ⟨some 48,_,_,_,_,none⟩ rfl fun K hK=> ?_
      go_simp
      go_wp2_with (go_at_call 32;refine Calls.mono (FC.out _ _ HX.out.cw.1) ?_;rintro e u3 ⟨rfl,hb⟩)
      have HX2:Hid (Fx Y Y W [(lb,sm1,107),(r,abl x,84),(q,nbl A z,80)] O n' u3 cb M m s T' S' a (J+1) R):=HX.out.below hb
      clear HX hb
      have HX:=HX2
      clear HX2
      refine hK.out _ _ (HX.out.ss m2 m1) ?_
      clear hK K hHeld
      intro hHeld
      try simp only [Act.put,zaa,zba,zca]
      refine tma 11 37 rfl ?_
      try simp only [Act.put,zaa,zba,zca]
      refine tma 12 49 rfl ?_
      try simp only [Act.put,zaa,zba,zca]
      refine tma 13 50 rfl ?_
      try simp only [Act.put,zaa,zba,zca]
      refine rda 15 ⟨none,_,_,_,_,none⟩ rfl fun K hK=> ?_
      refine wanted_mp rfl ?_
      have th:u3.there lb 0 9:=(HX.out.blk m0).there
      refine wp_store_mid _ _ _ rfl lb 0 (sy l1 l2 l3 l4 l5 l6 l7 l8 l9) rfl rfl th ka kr ?_
      (try simp only [List.toList_toArray])
      have HX2:Hid (Fx Y Y W [(lb,(sx l1 l2 l3 l4 l5 l6 l7 l8 l9),107),(r,abl x,84),(q,nbl A z,80)] O n' (u3.setCells lb 0 (sx l1 l2 l3 l4 l5 l6 l7 l8 l9)) cb M m s T' S' a (J+1) R):=HX.out.put [] rfl
      clear HX th
      have HX:=HX2
      clear HX2
      refine hK.out _ _ (HX.out.ss m2 m1) (fun hHeld2=> ?_)
      clear hK K hHeld
      generalize u3.setCells lb 0 (sx l1 l2 l3 l4 l5 l6 l7 l8 l9)=u4 at hHeld2 HX |-
      have hHeld:=hHeld2
      clear hHeld2
      try simp only [Act.put,zaa,zba,zca]
      refine tma 16 10 rfl ?_
      try simp only [Act.put,zaa,zba,zca]
      clear hHeld
      refine wpAnyH_done ka ?_ _
      refine NoPanic.normal ?_
      go_wp2_with fail
      go_meet
      exact ⟨rfl,lb,rfl,HX⟩
  . have HX2:Hid (Fx Y Y W [(U.heap.size,sm1,107),(r,abl x,84),(q,nbl A z,80)] O n' (U.alloc (.cells sl1 107)) cb M m s T' S' a (J+1) R):=HX.out.box sm1 107
    clear HX
    have HX:=HX2
    clear HX2
    go_simp
    refine hK.out _ _ (HX.out.ss m2 m1) (fun hHeld2=> ?_)
    clear hK K hHeld
    generalize U.alloc (.cells sl1 107)=u1 at hHeld2 HX |-
    generalize U.heap.size=lb at HX |-
    have hHeld:=hHeld2
    clear hHeld2
    try simp only [Act.put,zaa,zba,zca]
    refine rda 9 ⟨some 47,_,_,_,_,none⟩ rfl fun K hK=> ?_
    go_simp
    go_wp2_with (go_at_call 33;refine Calls.mono (PC.out _) ?_;rintro e u2 ⟨rfl,hb⟩)
    have HX2:Hid (Fx Y Y W [(lb,sm1,107),(r,abl x,84),(q,nbl A z,80)] O n' u2 cb M m s T' S' a (J+1) R):=HX.out.below hb
    clear HX hb
    have HX:=HX2
    clear HX2
    refine hK.out _ _ (HX.out.ss m2 m1) ?_
    clear hK K hHeld
    intro hHeld
    try simp only [Act.put,zaa,zba,zca]
    refine rda 10 ⟨some 48,_,_,_,_,none⟩ rfl fun K hK=> ?_
    go_simp
    go_wp2_with (go_at_call 32;refine Calls.mono (FC.out _ _ HX.out.cw.1) ?_;rintro e u3 ⟨rfl,hb⟩)
    have HX2:Hid (Fx Y Y W [(lb,sm1,107),(r,abl x,84),(q,nbl A z,80)] O n' u3 cb M m s T' S' a (J+1) R):=HX.out.below hb
    clear HX hb
    have HX:=HX2
    clear HX2
    refine hK.out _ _ (HX.out.ss m2 m1) ?_
    clear hK K hHeld
    intro hHeld
    try simp only [Act.put,zaa,zba,zca]
    refine tma 11 37 rfl ?_
    try simp only [Act.put,zaa,zba,zca]
    refine tma 12 49 rfl ?_
    try simp only [Act.put,zaa,zba,zca]
    refine tma 13 50 rfl ?_
    try simp only [Act.put,zaa,zba,zca]
    refine rda 15 ⟨none,_,_,_,_,none⟩ rfl fun K hK=> ?_
    refine wanted_mp rfl ?_
    have th:u3.there lb 0 9:=(HX.out.blk m0).there
    refine wp_store_mid _ _ _ rfl lb 0 (sy l1 l2 l3 l4 l5 l6 l7 l8 l9) rfl rfl th ka kr ?_
    (try simp only [List.toList_toArray])
    have HX2:Hid (Fx Y Y W [(lb,(sx l1 l2 l3 l4 l5 l6 l7 l8 l9),107),(r,abl x,84),(q,nbl A z,80)] O n' (u3.setCells lb 0 (sx l1 l2 l3 l4 l5 l6 l7 l8 l9)) cb M m s T' S' a (J+1) R):=HX.out.put [] rfl
    clear HX th
    have HX:=HX2
    clear HX2
    refine hK.out _ _ (HX.out.ss m2 m1) (fun hHeld2=> ?_)
    clear hK K hHeld
    generalize u3.setCells lb 0 (sx l1 l2 l3 l4 l5 l6 l7 l8 l9)=u4 at hHeld2 HX |-
    have hHeld:=hHeld2
    clear hHeld2
    try simp only [Act.put,zaa,zba,zca]
    refine tma 16 10 rfl ?_
    try simp only [Act.put,zaa,zba,zca]
    clear hHeld
    refine wpAnyH_done ka ?_ _
    refine NoPanic.normal ?_
    go_wp2_with fail
    go_meet
    exact ⟨rfl,lb,rfl,HX⟩
 case rest =>
 obtain ⟨rfl,lb,rfl,hq⟩:=hcut
 obtain ⟨w4,hw4⟩: ∃ w4,w4=wc:=⟨_,rfl⟩
 subst hw4
 have U4:Hid (Fx Y Y W [(lb,(sx l1 l2 l3 l4 l5 l6 l7 l8 l9),107),(r,abl x,84),(q,nbl A z,80)] O n' w4 cb M m s T' S' a (J+1) R):=hq.out
 clear hq
 have HL:Hid (zz=true->p<2/\ ∃ f:Nat,a.lf p=some ⟨f,true,true,false⟩/\R=R'/\l4=f/\l5=true/\l6=true/\l7=false):=fun hz=>by
  obtain ⟨v,d,e1,e2⟩:=FD.out _ _ U4.out.cw.1 hz
  have lp:p<2:=Nat.lt_of_not_le fun c=>by rw [U4.out.cw.1.rg.2 p c] at e1;cases e1
  rcases HR.out.1 lp with ⟨c,_⟩ | ⟨⟨f,c⟩,c2⟩
  . rw [c] at e1;cases e1
  . rw [c] at e1;cases e1;cases e2
    exact ⟨lp,f,c,c2,rfl,rfl,rfl,rfl⟩
 clear FD FC
 go_upto_region 6 with fail
 go_cut [66] (fun v V=> ∃ hit:Bool,v=.bool hit/\Hid ((hit=true->zz=true)/\Fx Y Y W [(lb,(sx l1 l2 l3 l4 l5 l6 l7 l8 l9),107),(r,abl x,84),(q,nbl A z,80)] O n' V cb M m s T' S' a (J+1) R))
 case first =>
  cases zz with
  | false =>
   clear HL
   go_wp2_with fail
   go_meet
   exact ⟨false,rfl,fun h=>h,U4.out⟩
  | true =>
   obtain ⟨_,f,_,_,rfl,rfl,rfl,rfl⟩:=HL.out rfl
   have MC:Hid (∀ w:World,_):=fun w=>may_any true true false x true false w
   have mv:mayV true true false x true false=true:=by cases x <;> rfl
   rw [mv] at MC
   have x4:w4.cell? ⟨lb,4,none⟩=some (.bool true):=(U4.out.blk m0).cell 4
   have x5:w4.cell? ⟨lb,5,none⟩=some (.bool true):=(U4.out.blk m0).cell 5
   have x6:w4.cell? ⟨lb,6,none⟩=some (.bool false):=(U4.out.blk m0).cell 6
   have y0:w4.cell? ⟨r,0,none⟩=some (.bool x):=(U4.out.blk m1).cell 0
   have y1:w4.cell? ⟨r,1,none⟩=some (.bool true):=(U4.out.blk m1).cell 1
   have y2:w4.cell? ⟨r,2,none⟩=some (.bool false):=(U4.out.blk m1).cell 2
   clear mv HL
   go_wp2_with fail
   refine Calls.mono (MC.out _) ?_
   rintro e w5 ⟨rfl,hb5⟩
   have U5:Hid (Fx Y Y W [(lb,(sx l1 l2 l3 f true true false l8 l9),107),(r,abl x,84),(q,nbl A z,80)] O n' w5 cb M m s T' S' a (J+1) R):=U4.out.below hb5
   have z0:w5.cell? ⟨r,0,none⟩=some (.bool x):=(U5.out.blk m1).cell 0
   have z8:w5.cell? ⟨lb,8,none⟩=some (.bool l9):=(U5.out.blk m0).cell 8
   clear hb5 U4 x4 x5 x6 y0 y1 y2 MC
   cases l9 <;> cases x
   all_goals
    go_wp2_with fail
    go_meet
    exact ⟨_,rfl,by simp,U5.out⟩
 case rest =>
 obtain ⟨hit,rfl,hq⟩:=hcut
 obtain ⟨w6,hw6⟩: ∃ w6,w6=wc:=⟨_,rfl⟩
 subst hw6
 have U6:Hid ((hit=true->zz=true)/\Fx Y Y W [(lb,(sx l1 l2 l3 l4 l5 l6 l7 l8 l9),107),(r,abl x,84),(q,nbl A z,80)] O n' w6 cb M m s T' S' a (J+1) R):=hq.out
 clear hq U4
 cases hit with
 | true =>
  obtain ⟨lp,f,g1,rfl,rfl,rfl,rfl,rfl⟩:=HL.out (U6.out.1 rfl)
  have z3:w6.cell? ⟨lb,3,none⟩=some (.int .i64 f):=(U6.out.2.blk m0).cell 3
  have HE:Hid (Frm Y O W cb M m s a (J+3) R p f w6):=⟨_,_,_,_,_,g1,U6.out.2.cw.1.le (by omega),U6.out.2.cw.2,fun _ _ d=>d⟩
  clear HL U6 HR
  go_wp2_with fail
  go_returns
  exact Or.inl ⟨lp,f,rfl,HE.out⟩
 | false =>
 have U7:Hid (Fx Y Y W [(r,abl x,84),(q,nbl A z,80)] O n' w6 cb M m s T' S' a (J+1) R):=U6.out.2.tail
 clear U6 HL
 have x0:w6.cell? ⟨q,0,none⟩=some (.int .i64 1):=(U7.out.blk m1).cell 0
 have x1:w6.cell? ⟨q,1,none⟩=some (.int .u64 A):=(U7.out.blk m1).cell 1
 have x2:w6.cell? ⟨q,2,none⟩=some (.int .i64 z):=(U7.out.blk m1).cell 2
 have y0:w6.cell? ⟨r,0,none⟩=some (.bool x):=(U7.out.blk m0).cell 0
 have y1:w6.cell? ⟨r,1,none⟩=some (.bool true):=(U7.out.blk m0).cell 1
 have y2:w6.cell? ⟨r,2,none⟩=some (.bool false):=(U7.out.blk m0).cell 2
 go_wp2_with fail
 rcases Nat.lt_or_eq_of_le HR.out.2.1 with lp | rfl
 rotate_left
 . obtain rfl:=HX2.out rfl
   refine Calls.mono (U7.out.cw.1.ctouch0 A z HR.out.2.2.2.1 HR.out.2.2.2.2) ?_
   rintro e w8 ⟨rfl,hb⟩
   exact ⟨rfl,Or.inr ⟨rfl,rfl,U7.out.cw.2.trans (U7.out.yk hb)⟩⟩
 have HP:Hid (p<2):=lp
 clear lp HX2
 refine Calls.mono (U7.out.touch (by have:=HR.out;omega) HP.out (HR.out.1 HP.out) x A z HR.out.2.2.2.1 HR.out.2.2.2.2) ?_
 rintro e w8 ⟨rfl,f,s',a',e1,e2,e3,h4⟩
 clear x0 x1 x2 y0 y1 y2 U7
 have U8:Hid (Fx Y Y W [(r,abl x,84),(q,nbl A z,80)] O n' w8 cb M m s' T' S' a' (J+2) R'):=h4
 have WK:Hid _:=U8.out.cw.1.walk (by have:=HR.out;omega) (by have:=HR.out;omega) e1 (addr:=A) HR.out.2.2.2.1 (by have:=HR.out;omega) HR.out.2.2.2.2 x
 obtain ⟨d,s2,_,hD,wk⟩:=WK.out
 rw [e2] at wk
 have WC:Hid _:=wk
 have FI:Hid (a'.lf p=some ⟨f,true,true,false⟩/\ ∀ f0 B,Dt m s a p f0 B->Dt m s2 a' p f0 B):=⟨e1,fun f0 B D=>by
  have D':=e3 f0 B D
  have e:f0=f:=by have q:=D'.lf;rw [e1] at q;injection q with q;injection q with q;omega
  subst e
  exact hD B D'⟩
 clear wk hD e1 e2 e3 h4 WK
 go_upto_region 9 with fail
 go_cut [13,14,15] (fun v u e V=>e=.int .i64 0/\ ∃ fb:Nat,v=.pointer (some ⟨fb,0,none⟩)/\ ∃ gb:Nat,u=.pointer (some ⟨gb,0,none⟩)/\Hid (Fx Y Y W [(fb,(se1 f true true false false false d),113),(r,abl x,84),(q,nbl A z,80)] O n' V cb M m s2 T' S' a' (J+3) R'))
 case first =>
  refine hda (fun cw=>Ss cw cb M m q r A z x) (((U8.out.below (below_drew (Below.refl _ _))).ss m1 m0)) fun hHeld=> ?_
  have HX:Hid (Fx Y Y W [(r,abl x,84),(q,nbl A z,80)] O n' w8.drew cb M m s' T' S' a' (J+2) R'):=U8.out.below (below_drew (Below.refl _ _))
  clear U8
  generalize w8.drew=V at hHeld HX |-
  refine tma 0 74 rfl ?_
  try simp only [Act.put,zaa,zba,zca]
  refine tma 1 75 rfl ?_
  try simp only [Act.put,zaa,zba,zca]
  refine tma 2 76 rfl ?_
  try simp only [Act.put,zaa,zba,zca]
  refine tla 3 77 (pp M.mb) rfl ?_ ?_
  . intro w hSw;(try dsimp only at hSw);have r:=hSw.c;(try go_simp);(try simp [*])
  try simp only [Act.put,zaa,zba,zca]
  refine tma 4 78 rfl ?_
  try simp only [Act.put,zaa,zba,zca]
  refine tma 5 79 rfl ?_
  try simp only [Act.put,zaa,zba,zca]
  refine tla 6 80 (pp m.rb) rfl ?_ ?_
  . intro w hSw;(try dsimp only at hSw);have r:=hSw.r0;(try go_simp);(try simp [*])
  try simp only [Act.put,zaa,zba,zca]
  refine tma 7 81 rfl ?_
  try simp only [Act.put,zaa,zba,zca]
  refine tma 8 82 rfl ?_
  try simp only [Act.put,zaa,zba,zca]
  refine tla 9 83 (.int .u64 A) rfl ?_ ?_
  . intro w hSw;(try dsimp only at hSw);have r1:=hSw.q.cell 1;(try go_simp);(try simp [*])
  try simp only [Act.put,zaa,zba,zca]
  refine tla 10 84 (av x) rfl ?_ ?_
  . intro w hSw;(try dsimp only at hSw);have r0:=hSw.r.cell 0;have r1:=hSw.r.cell 1;have r2:=hSw.r.cell 2;(try go_simp);(try simp [*])
  try simp only [Act.put,zaa,zba,zca]
  refine wpAnyH_ready (rs:=[11,16,17]) ka (by simp) ?_
  refine AllReadyH.cons (o:=⟨some 85,_,_,_,_,none⟩) rfl (fun K hK=> ?_) (AllReadyH.cons (o:=⟨some 13,_,_,_,_,none⟩) rfl (fun K hK=> ?_) (AllReadyH.cons (o:=⟨some 14,_,_,_,_,none⟩) rfl (fun K hK=> ?_) AllReadyH.nil))
  . go_simp
    go_wp2_with (go_at_call 36;refine Calls.mono (HX.out.step (fun Y' hc=>WC.out Y' _ hc)) ?_;rintro e v1 ⟨rfl,hb⟩)
    have HX2:Hid (Fx Y Y W [(r,abl x,84),(q,nbl A z,80)] O n' v1 cb M m s2 T' S' a' (J+3) R'):=hb
    clear HX hb
    have HX:=HX2
    clear HX2
    refine hK.out _ _ (HX.out.ss m1 m0) ?_
    clear hK K hHeld
    intro hHeld
    try simp only [Act.put,zaa,zba,zca]
    refine tma 12 73 rfl ?_
    try simp only [Act.put,zaa,zba,zca]
    refine tma 13 86 rfl ?_
    try simp only [Act.put,zaa,zba,zca]
    refine tma 14 87 rfl ?_
    try simp only [Act.put,zaa,zba,zca]
    refine tma 15 88 rfl ?_
    try simp only [Act.put,zaa,zba,zca]
    refine wpAnyH_ready (rs:=[16,17]) ka (by simp) ?_
    refine AllReadyH.cons (o:=⟨some 13,_,_,_,_,none⟩) rfl (fun K hK=> ?_) (AllReadyH.cons (o:=⟨some 14,_,_,_,_,none⟩) rfl (fun K hK=> ?_) AllReadyH.nil)
    . have HX2:Hid (Fx Y Y W [(v1.heap.size,sp1,113),(r,abl x,84),(q,nbl A z,80)] O n' (v1.alloc (.cells so1 113)) cb M m s2 T' S' a' (J+3) R'):=HX.out.box sp1 113
      clear HX
      have HX:=HX2
      clear HX2
      go_simp
      refine hK.out _ _ (HX.out.ss m2 m1) (fun hHeld2=> ?_)
      clear hK K hHeld
      generalize v1.alloc (.cells so1 113)=v2 at hHeld2 HX |-
      generalize v1.heap.size=fb at HX |-
      have hHeld:=hHeld2
      clear hHeld2
      try simp only [Act.put,zaa,zba,zca]
      refine rda 17 ⟨some 14,_,_,_,_,none⟩ rfl fun K hK=> ?_
      have HX2:Hid (Fx Y Y W [(v2.heap.size,[.int .u64 0,.int .i64 0],47),(fb,sp1,113),(r,abl x,84),(q,nbl A z,80)] O n' (v2.alloc (.cells #[.int .u64 0,.int .i64 0] 47)) cb M m s2 T' S' a' (J+3) R'):=HX.out.box [.int .u64 0,.int .i64 0] 47
      clear HX
      have HX:=HX2
      clear HX2
      go_simp
      refine hK.out _ _ (HX.out.ss m3 m2) (fun hHeld2=> ?_)
      clear hK K hHeld
      generalize v2.alloc (.cells #[.int .u64 0,.int .i64 0] 47)=v3 at hHeld2 HX |-
      generalize v2.heap.size=gb at HX |-
      have hHeld:=hHeld2
      clear hHeld2
      try simp only [Act.put,zaa,zba,zca]
      refine rda 18 ⟨none,_,_,_,_,none⟩ rfl fun K hK=> ?_
      refine wanted_mp rfl ?_
      have th:v3.there fb 0 7:=(HX.out.blk m1).there
      refine wp_store_mid _ _ _ rfl fb 0 (sd1 f true true false false false d) rfl rfl th ka kr ?_
      (try simp only [List.toList_toArray])
      have HX2:Hid (Fx Y Y W [(gb,[.int .u64 0,.int .i64 0],47),(fb,(se1 f true true false false false d),113),(r,abl x,84),(q,nbl A z,80)] O n' (v3.setCells fb 0 (se1 f true true false false false d)) cb M m s2 T' S' a' (J+3) R'):=HX.out.put [(gb,[.int .u64 0,.int .i64 0],47)] rfl
      clear HX th
      have HX:=HX2
      clear HX2
      refine hK.out _ _ (HX.out.ss m3 m2) (fun hHeld2=> ?_)
      clear hK K hHeld
      generalize v3.setCells fb 0 (se1 f true true false false false d)=v4 at hHeld2 HX |-
      have hHeld:=hHeld2
      clear hHeld2
      try simp only [Act.put,zaa,zba,zca]
      refine rda 19 ⟨none,_,_,_,_,none⟩ rfl fun K hK=> ?_
      refine wanted_mp rfl ?_
      have th:v4.there gb 0 2:=(HX.out.blk m0).there
      refine wp_store_mid _ _ _ rfl gb 0 #[.int .u64 0,.int .i64 0] rfl rfl th ka kr ?_
      (try simp only [List.toList_toArray])
      have HX2:Hid (Fx Y Y W [(gb,[.int .u64 0,.int .i64 0],47),(fb,(se1 f true true false false false d),113),(r,abl x,84),(q,nbl A z,80)] O n' (v4.setCells gb 0 [.int .u64 0,.int .i64 0]) cb M m s2 T' S' a' (J+3) R'):=HX.out.put [] rfl
      clear HX th
      have HX:=HX2
      clear HX2
      refine hK.out _ _ (HX.out.ss m3 m2) (fun hHeld2=> ?_)
      clear hK K hHeld
      generalize v4.setCells gb 0 [.int .u64 0,.int .i64 0]=v5 at hHeld2 HX |-
      have hHeld:=hHeld2
      clear hHeld2
      try simp only [Act.put,zaa,zba,zca]
      refine tma 20 15 rfl ?_
      try simp only [Act.put,zaa,zba,zca]
      clear hHeld
      refine wpAnyH_done ka ?_ _
      refine NoPanic.normal ?_
      go_wp2_with fail
      go_meet
      exact ⟨rfl,fb,rfl,gb,rfl,HX.out.sub (.cons _ (List.Sublist.refl _))⟩
    . have HX2:Hid (Fx Y Y W [(v1.heap.size,[.int .u64 0,.int .i64 0],47),(r,abl x,84),(q,nbl A z,80)] O n' (v1.alloc (.cells #[.int .u64 0,.int .i64 0] 47)) cb M m s2 T' S' a' (J+3) R'):=HX.out.box [.int .u64 0,.int .i64 0] 47
      clear HX
      have HX:=HX2
      clear HX2
      go_simp
      refine hK.out _ _ (HX.out.ss m2 m1) (fun hHeld2=> ?_)
      clear hK K hHeld
      generalize v1.alloc (.cells #[.int .u64 0,.int .i64 0] 47)=v2 at hHeld2 HX |-
      generalize v1.heap.size=gb at HX |-
      have hHeld:=hHeld2
      clear hHeld2
      try simp only [Act.put,zaa,zba,zca]
      refine rda 16 ⟨some 13,_,_,_,_,none⟩ rfl fun K hK=> ?_
      have HX2:Hid (Fx Y Y W [(v2.heap.size,sp1,113),(gb,[.int .u64 0,.int .i64 0],47),(r,abl x,84),(q,nbl A z,80)] O n' (v2.alloc (.cells so1 113)) cb M m s2 T' S' a' (J+3) R'):=HX.out.box sp1 113
      clear HX
      have HX:=HX2
      clear HX2
      go_simp
      refine hK.out _ _ (HX.out.ss m3 m2) (fun hHeld2=> ?_)
      clear hK K hHeld
      generalize v2.alloc (.cells so1 113)=v3 at hHeld2 HX |-
      generalize v2.heap.size=fb at HX |-
      have hHeld:=hHeld2
      clear hHeld2
      try simp only [Act.put,zaa,zba,zca]
      refine rda 18 ⟨none,_,_,_,_,none⟩ rfl fun K hK=> ?_
      refine wanted_mp rfl ?_
      have th:v3.there fb 0 7:=(HX.out.blk m0).there
      refine wp_store_mid _ _ _ rfl fb 0 (sd1 f true true false false false d) rfl rfl th ka kr ?_
      (try simp only [List.toList_toArray])
      have HX2:Hid (Fx Y Y W [(fb,(se1 f true true false false false d),113),(gb,[.int .u64 0,.int .i64 0],47),(r,abl x,84),(q,nbl A z,80)] O n' (v3.setCells fb 0 (se1 f true true false false false d)) cb M m s2 T' S' a' (J+3) R'):=HX.out.put [] rfl
      clear HX th
      have HX:=HX2
      clear HX2
      refine hK.out _ _ (HX.out.ss m3 m2) (fun hHeld2=> ?_)
      clear hK K hHeld
      generalize v3.setCells fb 0 (se1 f true true false false false d)=v4 at hHeld2 HX |-
      have hHeld:=hHeld2
      clear hHeld2
      try simp only [Act.put,zaa,zba,zca]
      refine rda 19 ⟨none,_,_,_,_,none⟩ rfl fun K hK=> ?_
      refine wanted_mp rfl ?_
      have th:v4.there gb 0 2:=(HX.out.blk m1).there
      refine wp_store_mid _ _ _ rfl gb 0 #[.int .u64 0,.int .i64 0] rfl rfl th ka kr ?_
      (try simp only [List.toList_toArray])
      have HX2:Hid (Fx Y Y W [(fb,(se1 f true true false false false d),113),(gb,[.int .u64 0,.int .i64 0],47),(r,abl x,84),(q,nbl A z,80)] O n' (v4.setCells gb 0 [.int .u64 0,.int .i64 0]) cb M m s2 T' S' a' (J+3) R'):=HX.out.put [(fb,(se1 f true true false false false d),113)] rfl
      clear HX th
      have HX:=HX2
      clear HX2
      refine hK.out _ _ (HX.out.ss m3 m2) (fun hHeld2=> ?_)
      clear hK K hHeld
      generalize v4.setCells gb 0 [.int .u64 0,.int .i64 0]=v5 at hHeld2 HX |-
      have hHeld:=hHeld2
      clear hHeld2
      try simp only [Act.put,zaa,zba,zca]
      refine tma 20 15 rfl ?_
      try simp only [Act.put,zaa,zba,zca]
      clear hHeld
      refine wpAnyH_done ka ?_ _
      refine NoPanic.normal ?_
      go_wp2_with fail
      go_meet
      exact ⟨rfl,fb,rfl,gb,rfl,HX.out.sub (.cons_cons _ (.cons _ (List.Sublist.refl _)))⟩
  . have HX2:Hid (Fx Y Y W [(V.heap.size,sp1,113),(r,abl x,84),(q,nbl A z,80)] O n' (V.alloc (.cells so1 113)) cb M m s' T' S' a' (J+2) R'):=HX.out.box sp1 113
    clear HX
    have HX:=HX2
    clear HX2
    go_simp
    refine hK.out _ _ (HX.out.ss m2 m1) (fun hHeld2=> ?_)
    clear hK K hHeld
    generalize V.alloc (.cells so1 113)=v1 at hHeld2 HX |-
    generalize V.heap.size=fb at HX |-
    have hHeld:=hHeld2
    clear hHeld2
    try simp only [Act.put,zaa,zba,zca]
    refine wpAnyH_ready (rs:=[11,17]) ka (by simp) ?_
    refine AllReadyH.cons (o:=⟨some 85,_,_,_,_,none⟩) rfl (fun K hK=> ?_) (AllReadyH.cons (o:=⟨some 14,_,_,_,_,none⟩) rfl (fun K hK=> ?_) AllReadyH.nil)
    . go_simp
      go_wp2_with (go_at_call 36;refine Calls.mono (HX.out.step (fun Y' hc=>WC.out Y' _ hc)) ?_;rintro e v2 ⟨rfl,hb⟩)
      have HX2:Hid (Fx Y Y W [(fb,sp1,113),(r,abl x,84),(q,nbl A z,80)] O n' v2 cb M m s2 T' S' a' (J+3) R'):=hb
      clear HX hb
      have HX:=HX2
      clear HX2
      refine hK.out _ _ (HX.out.ss m2 m1) ?_
      clear hK K hHeld
      intro hHeld
      try simp only [Act.put,zaa,zba,zca]
      refine tma 12 73 rfl ?_
      try simp only [Act.put,zaa,zba,zca]
      refine tma 13 86 rfl ?_
      try simp only [Act.put,zaa,zba,zca]
      refine tma 14 87 rfl ?_
      try simp only [Act.put,zaa,zba,zca]
      refine tma 15 88 rfl ?_
      try simp only [Act.put,zaa,zba,zca]
      refine rda 17 ⟨some 14,_,_,_,_,none⟩ rfl fun K hK=> ?_
      have HX2:Hid (Fx Y Y W [(v2.heap.size,[.int .u64 0,.int .i64 0],47),(fb,sp1,113),(r,abl x,84),(q,nbl A z,80)] O n' (v2.alloc (.cells #[.int .u64 0,.int .i64 0] 47)) cb M m s2 T' S' a' (J+3) R'):=HX.out.box [.int .u64 0,.int .i64 0] 47
      clear HX
      have HX:=HX2
      clear HX2
      go_simp
      refine hK.out _ _ (HX.out.ss m3 m2) (fun hHeld2=> ?_)
      clear hK K hHeld
      generalize v2.alloc (.cells #[.int .u64 0,.int .i64 0] 47)=v3 at hHeld2 HX |-
      generalize v2.heap.size=gb at HX |-
      have hHeld:=hHeld2
      clear hHeld2
      try simp only [Act.put,zaa,zba,zca]
      refine rda 18 ⟨none,_,_,_,_,none⟩ rfl fun K hK=> ?_
      refine wanted_mp rfl ?_
      have th:v3.there fb 0 7:=(HX.out.blk m1).there
      refine wp_store_mid _ _ _ rfl fb 0 (sd1 f true true false false false d) rfl rfl th ka kr ?_
      (try simp only [List.toList_toArray])
      have HX2:Hid (Fx Y Y W [(gb,[.int .u64 0,.int .i64 0],47),(fb,(se1 f true true false false false d),113),(r,abl x,84),(q,nbl A z,80)] O n' (v3.setCells fb 0 (se1 f true true false false false d)) cb M m s2 T' S' a' (J+3) R'):=HX.out.put [(gb,[.int .u64 0,.int .i64 0],47)] rfl
      clear HX th
      have HX:=HX2
      clear HX2
      refine hK.out _ _ (HX.out.ss m3 m2) (fun hHeld2=> ?_)
      clear hK K hHeld
      generalize v3.setCells fb 0 (se1 f true true false false false d)=v4 at hHeld2 HX |-
      have hHeld:=hHeld2
      clear hHeld2
      try simp only [Act.put,zaa,zba,zca]
      refine rda 19 ⟨none,_,_,_,_,none⟩ rfl fun K hK=> ?_
      refine wanted_mp rfl ?_
      have th:v4.there gb 0 2:=(HX.out.blk m0).there
      refine wp_store_mid _ _ _ rfl gb 0 #[.int .u64 0,.int .i64 0] rfl rfl th ka kr ?_
      (try simp only [List.toList_toArray])
      have HX2:Hid (Fx Y Y W [(gb,[.int .u64 0,.int .i64 0],47),(fb,(se1 f true true false false false d),113),(r,abl x,84),(q,nbl A z,80)] O n' (v4.setCells gb 0 [.int .u64 0,.int .i64 0]) cb M m s2 T' S' a' (J+3) R'):=HX.out.put [] rfl
      clear HX th
      have HX:=HX2
      clear HX2
      refine hK.out _ _ (HX.out.ss m3 m2) (fun hHeld2=> ?_)
      clear hK K hHeld
      generalize v4.setCells gb 0 [.int .u64 0,.int .i64 0]=v5 at hHeld2 HX |-
      have hHeld:=hHeld2
      clear hHeld2
      try simp only [Act.put,zaa,zba,zca]
      refine tma 20 15 rfl ?_
      try simp only [Act.put,zaa,zba,zca]
      clear hHeld
      refine wpAnyH_done ka ?_ _
      refine NoPanic.normal ?_
      go_wp2_with fail
      go_meet
      exact ⟨rfl,fb,rfl,gb,rfl,HX.out.sub (.cons _ (List.Sublist.refl _))⟩
    . have HX2:Hid (Fx Y Y W [(v1.heap.size,[.int .u64 0,.int .i64 0],47),(fb,sp1,113),(r,abl x,84),(q,nbl A z,80)] O n' (v1.alloc (.cells #[.int .u64 0,.int .i64 0] 47)) cb M m s' T' S' a' (J+2) R'):=HX.out.box [.int .u64 0,.int .i64 0] 47
      clear HX
      have HX:=HX2
      clear HX2
      go_simp
      refine hK.out _ _ (HX.out.ss m3 m2) (fun hHeld2=> ?_)
      clear hK K hHeld
      generalize v1.alloc (.cells #[.int .u64 0,.int .i64 0] 47)=v2 at hHeld2 HX |-
      generalize v1.heap.size=gb at HX |-
      have hHeld:=hHeld2
      clear hHeld2
      try simp only [Act.put,zaa,zba,zca]
      refine rda 11 ⟨some 85,_,_,_,_,none⟩ rfl fun K hK=> ?_
      go_simp
      go_wp2_with (go_at_call 36;refine Calls.mono (HX.out.step (fun Y' hc=>WC.out Y' _ hc)) ?_;rintro e v3 ⟨rfl,hb⟩)
      have HX2:Hid (Fx Y Y W [(gb,[.int .u64 0,.int .i64 0],47),(fb,sp1,113),(r,abl x,84),(q,nbl A z,80)] O n' v3 cb M m s2 T' S' a' (J+3) R'):=hb
      clear HX hb
      have HX:=HX2
      clear HX2
      refine hK.out _ _ (HX.out.ss m3 m2) ?_
      clear hK K hHeld
      intro hHeld
      try simp only [Act.put,zaa,zba,zca]
      refine tma 12 73 rfl ?_
      try simp only [Act.put,zaa,zba,zca]
      refine tma 13 86 rfl ?_
      try simp only [Act.put,zaa,zba,zca]
      refine tma 14 87 rfl ?_
      try simp only [Act.put,zaa,zba,zca]
      refine tma 15 88 rfl ?_
      try simp only [Act.put,zaa,zba,zca]
      refine rda 18 ⟨none,_,_,_,_,none⟩ rfl fun K hK=> ?_
      refine wanted_mp rfl ?_
      have th:v3.there fb 0 7:=(HX.out.blk m1).there
      refine wp_store_mid _ _ _ rfl fb 0 (sd1 f true true false false false d) rfl rfl th ka kr ?_
      (try simp only [List.toList_toArray])
      have HX2:Hid (Fx Y Y W [(gb,[.int .u64 0,.int .i64 0],47),(fb,(se1 f true true false false false d),113),(r,abl x,84),(q,nbl A z,80)] O n' (v3.setCells fb 0 (se1 f true true false false false d)) cb M m s2 T' S' a' (J+3) R'):=HX.out.put [(gb,[.int .u64 0,.int .i64 0],47)] rfl
      clear HX th
      have HX:=HX2
      clear HX2
      refine hK.out _ _ (HX.out.ss m3 m2) (fun hHeld2=> ?_)
      clear hK K hHeld
      generalize v3.setCells fb 0 (se1 f true true false false false d)=v4 at hHeld2 HX |-
      have hHeld:=hHeld2
      clear hHeld2
      try simp only [Act.put,zaa,zba,zca]
      refine rda 19 ⟨none,_,_,_,_,none⟩ rfl fun K hK=> ?_
      refine wanted_mp rfl ?_
      have th:v4.there gb 0 2:=(HX.out.blk m0).there
      refine wp_store_mid _ _ _ rfl gb 0 #[.int .u64 0,.int .i64 0] rfl rfl th ka kr ?_
      (try simp only [List.toList_toArray])
      have HX2:Hid (Fx Y Y W [(gb,[.int .u64 0,.int .i64 0],47),(fb,(se1 f true true false false false d),113),(r,abl x,84),(q,nbl A z,80)] O n' (v4.setCells gb 0 [.int .u64 0,.int .i64 0]) cb M m s2 T' S' a' (J+3) R'):=HX.out.put [] rfl
      clear HX th
      have HX:=HX2
      clear HX2
      refine hK.out _ _ (HX.out.ss m3 m2) (fun hHeld2=> ?_)
      clear hK K hHeld
      generalize v4.setCells gb 0 [.int .u64 0,.int .i64 0]=v5 at hHeld2 HX |-
      have hHeld:=hHeld2
      clear hHeld2
      try simp only [Act.put,zaa,zba,zca]
      refine tma 20 15 rfl ?_
      try simp only [Act.put,zaa,zba,zca]
      clear hHeld
      refine wpAnyH_done ka ?_ _
      refine NoPanic.normal ?_
      go_wp2_with fail
      go_meet
      exact ⟨rfl,fb,rfl,gb,rfl,HX.out.sub (.cons _ (List.Sublist.refl _))⟩
  . have HX2:Hid (Fx Y Y W [(V.heap.size,[.int .u64 0,.int .i64 0],47),(r,abl x,84),(q,nbl A z,80)] O n' (V.alloc (.cells #[.int .u64 0,.int .i64 0] 47)) cb M m s' T' S' a' (J+2) R'):=HX.out.box [.int .u64 0,.int .i64 0] 47
    clear HX
    have HX:=HX2
    clear HX2
    go_simp
    refine hK.out _ _ (HX.out.ss m2 m1) (fun hHeld2=> ?_)
    clear hK K hHeld
    generalize V.alloc (.cells #[.int .u64 0,.int .i64 0] 47)=v1 at hHeld2 HX |-
    generalize V.heap.size=gb at HX |-
    have hHeld:=hHeld2
    clear hHeld2
    try simp only [Act.put,zaa,zba,zca]
    refine wpAnyH_ready (rs:=[11,16]) ka (by simp) ?_
    refine AllReadyH.cons (o:=⟨some 85,_,_,_,_,none⟩) rfl (fun K hK=> ?_) (AllReadyH.cons (o:=⟨some 13,_,_,_,_,none⟩) rfl (fun K hK=> ?_) AllReadyH.nil)
    . go_simp
      go_wp2_with (go_at_call 36;refine Calls.mono (HX.out.step (fun Y' hc=>WC.out Y' _ hc)) ?_;rintro e v2 ⟨rfl,hb⟩)
      have HX2:Hid (Fx Y Y W [(gb,[.int .u64 0,.int .i64 0],47),(r,abl x,84),(q,nbl A z,80)] O n' v2 cb M m s2 T' S' a' (J+3) R'):=hb
      clear HX hb
      have HX:=HX2
      clear HX2
      refine hK.out _ _ (HX.out.ss m2 m1) ?_
      clear hK K hHeld
      intro hHeld
      try simp only [Act.put,zaa,zba,zca]
      refine tma 12 73 rfl ?_
      try simp only [Act.put,zaa,zba,zca]
      refine tma 13 86 rfl ?_
      try simp only [Act.put,zaa,zba,zca]
      refine tma 14 87 rfl ?_
      try simp only [Act.put,zaa,zba,zca]
      refine tma 15 88 rfl ?_
      try simp only [Act.put,zaa,zba,zca]
      refine rda 16 ⟨some 13,_,_,_,_,none⟩ rfl fun K hK=> ?_
      have HX2:Hid (Fx Y Y W [(v2.heap.size,sp1,113),(gb,[.int .u64 0,.int .i64 0],47),(r,abl x,84),(q,nbl A z,80)] O n' (v2.alloc (.cells so1 113)) cb M m s2 T' S' a' (J+3) R'):=HX.out.box sp1 113
      clear HX
      have HX:=HX2
      clear HX2
      go_simp
      refine hK.out _ _ (HX.out.ss m3 m2) (fun hHeld2=> ?_)
      clear hK K hHeld
      generalize v2.alloc (.cells so1 113)=v3 at hHeld2 HX |-
      generalize v2.heap.size=fb at HX |-
      have hHeld:=hHeld2
      clear hHeld2
      try simp only [Act.put,zaa,zba,zca]
      refine rda 18 ⟨none,_,_,_,_,none⟩ rfl fun K hK=> ?_
      refine wanted_mp rfl ?_
      have th:v3.there fb 0 7:=(HX.out.blk m0).there
      refine wp_store_mid _ _ _ rfl fb 0 (sd1 f true true false false false d) rfl rfl th ka kr ?_
      (try simp only [List.toList_toArray])
      have HX2:Hid (Fx Y Y W [(fb,(se1 f true true false false false d),113),(gb,[.int .u64 0,.int .i64 0],47),(r,abl x,84),(q,nbl A z,80)] O n' (v3.setCells fb 0 (se1 f true true false false false d)) cb M m s2 T' S' a' (J+3) R'):=HX.out.put [] rfl
      clear HX th
      have HX:=HX2
      clear HX2
      refine hK.out _ _ (HX.out.ss m3 m2) (fun hHeld2=> ?_)
      clear hK K hHeld
      generalize v3.setCells fb 0 (se1 f true true false false false d)=v4 at hHeld2 HX |-
      have hHeld:=hHeld2
      clear hHeld2
      try simp only [Act.put,zaa,zba,zca]
      refine rda 19 ⟨none,_,_,_,_,none⟩ rfl fun K hK=> ?_
      refine wanted_mp rfl ?_
      have th:v4.there gb 0 2:=(HX.out.blk m1).there
      refine wp_store_mid _ _ _ rfl gb 0 #[.int .u64 0,.int .i64 0] rfl rfl th ka kr ?_
      (try simp only [List.toList_toArray])
      have HX2:Hid (Fx Y Y W [(fb,(se1 f true true false false false d),113),(gb,[.int .u64 0,.int .i64 0],47),(r,abl x,84),(q,nbl A z,80)] O n' (v4.setCells gb 0 [.int .u64 0,.int .i64 0]) cb M m s2 T' S' a' (J+3) R'):=HX.out.put [(fb,(se1 f true true false false false d),113)] rfl
      clear HX th
      have HX:=HX2
      clear HX2
      refine hK.out _ _ (HX.out.ss m3 m2) (fun hHeld2=> ?_)
      clear hK K hHeld
      generalize v4.setCells gb 0 [.int .u64 0,.int .i64 0]=v5 at hHeld2 HX |-
      have hHeld:=hHeld2
      clear hHeld2
      try simp only [Act.put,zaa,zba,zca]
      refine tma 20 15 rfl ?_
      try simp only [Act.put,zaa,zba,zca]
      clear hHeld
      refine wpAnyH_done ka ?_ _
      refine NoPanic.normal ?_
      go_wp2_with fail
      go_meet
      exact ⟨rfl,fb,rfl,gb,rfl,HX.out.sub (.cons_cons _ (.cons _ (List.Sublist.refl _)))⟩
    . have HX2:Hid (Fx Y Y W [(v1.heap.size,sp1,113),(gb,[.int .u64 0,.int .i64 0],47),(r,abl x,84),(q,nbl A z,80)] O n' (v1.alloc (.cells so1 113)) cb M m s' T' S' a' (J+2) R'):=HX.out.box sp1 113
      clear HX
      have HX:=HX2
      clear HX2
      go_simp
      refine hK.out _ _ (HX.out.ss m3 m2) (fun hHeld2=> ?_)
      clear hK K hHeld
      generalize v1.alloc (.cells so1 113)=v2 at hHeld2 HX |-
      generalize v1.heap.size=fb at HX |-
      have hHeld:=hHeld2
      clear hHeld2
      try simp only [Act.put,zaa,zba,zca]
      refine rda 11 ⟨some 85,_,_,_,_,none⟩ rfl fun K hK=> ?_
      go_simp
      go_wp2_with (go_at_call 36;refine Calls.mono (HX.out.step (fun Y' hc=>WC.out Y' _ hc)) ?_;rintro e v3 ⟨rfl,hb⟩)
      have HX2:Hid (Fx Y Y W [(fb,sp1,113),(gb,[.int .u64 0,.int .i64 0],47),(r,abl x,84),(q,nbl A z,80)] O n' v3 cb M m s2 T' S' a' (J+3) R'):=hb
      clear HX hb
      have HX:=HX2
      clear HX2
      refine hK.out _ _ (HX.out.ss m3 m2) ?_
      clear hK K hHeld
      intro hHeld
      try simp only [Act.put,zaa,zba,zca]
      refine tma 12 73 rfl ?_
      try simp only [Act.put,zaa,zba,zca]
      refine tma 13 86 rfl ?_
      try simp only [Act.put,zaa,zba,zca]
      refine tma 14 87 rfl ?_
      try simp only [Act.put,zaa,zba,zca]
      refine tma 15 88 rfl ?_
      try simp only [Act.put,zaa,zba,zca]
      refine rda 18 ⟨none,_,_,_,_,none⟩ rfl fun K hK=> ?_
      refine wanted_mp rfl ?_
      have th:v3.there fb 0 7:=(HX.out.blk m0).there
      refine wp_store_mid _ _ _ rfl fb 0 (sd1 f true true false false false d) rfl rfl th ka kr ?_
      (try simp only [List.toList_toArray])
      have HX2:Hid (Fx Y Y W [(fb,(se1 f true true false false false d),113),(gb,[.int .u64 0,.int .i64 0],47),(r,abl x,84),(q,nbl A z,80)] O n' (v3.setCells fb 0 (se1 f true true false false false d)) cb M m s2 T' S' a' (J+3) R'):=HX.out.put [] rfl
      clear HX th
      have HX:=HX2
      clear HX2
      refine hK.out _ _ (HX.out.ss m3 m2) (fun hHeld2=> ?_)
      clear hK K hHeld
      generalize v3.setCells fb 0 (se1 f true true false false false d)=v4 at hHeld2 HX |-
      have hHeld:=hHeld2
      clear hHeld2
      try simp only [Act.put,zaa,zba,zca]
      refine rda 19 ⟨none,_,_,_,_,none⟩ rfl fun K hK=> ?_
      refine wanted_mp rfl ?_
      have th:v4.there gb 0 2:=(HX.out.blk m1).there
      refine wp_store_mid _ _ _ rfl gb 0 #[.int .u64 0,.int .i64 0] rfl rfl th ka kr ?_
      (try simp only [List.toList_toArray])
      have HX2:Hid (Fx Y Y W [(fb,(se1 f true true false false false d),113),(gb,[.int .u64 0,.int .i64 0],47),(r,abl x,84),(q,nbl A z,80)] O n' (v4.setCells gb 0 [.int .u64 0,.int .i64 0]) cb M m s2 T' S' a' (J+3) R'):=HX.out.put [(fb,(se1 f true true false false false d),113)] rfl
      clear HX th
      have HX:=HX2
      clear HX2
      refine hK.out _ _ (HX.out.ss m3 m2) (fun hHeld2=> ?_)
      clear hK K hHeld
      generalize v4.setCells gb 0 [.int .u64 0,.int .i64 0]=v5 at hHeld2 HX |-
      have hHeld:=hHeld2
      clear hHeld2
      try simp only [Act.put,zaa,zba,zca]
      refine tma 20 15 rfl ?_
      try simp only [Act.put,zaa,zba,zca]
      clear hHeld
      refine wpAnyH_done ka ?_ _
      refine NoPanic.normal ?_
      go_wp2_with fail
      go_meet
      exact ⟨rfl,fb,rfl,gb,rfl,HX.out.sub (.cons_cons _ (.cons _ (List.Sublist.refl _)))⟩
 case rest =>
 obtain ⟨rfl,fb,rfl,gb,rfl,hq⟩:=hcut
 obtain ⟨w9,hw9⟩: ∃ w9,w9=wc:=⟨_,rfl⟩
 subst hw9
 have U9:Hid (Fx Y Y W [(fb,(se1 f true true false false false d),113),(r,abl x,84),(q,nbl A z,80)] O n' w9 cb M m s2 T' S' a' (J+3) R'):=hq.out
 clear hq WC U8
 rcases (show y= -1\/ ∃ k:Nat,k<2/\y=k from (by have:=WY.out;by_cases c:y= -1;exact Or.inl c;exact Or.inr ⟨y.toNat,by omega,by omega⟩)) with rfl | ⟨k,hk,rfl⟩
 . have z0:w9.cell? ⟨fb,0,none⟩=some (.int .i64 f):=(U9.out.blk m0).cell 0
   have HE:Hid (Frm Y O W cb M m s a (J+3) R' p f w9):=⟨_,_,_,_,_,FI.out.1,U9.out.cw.1,U9.out.cw.2,FI.out.2⟩
   clear U9
   go_wp2_with fail
   go_returns
   exact Or.inl ⟨HP.out,f,rfl,HE.out⟩
 . have dk:decide ((k:Int)>=0)=true:=by simp
   have HK:Hid (k<2):=hk
   clear hk
   go_upto_region 13 with fail
   clear dk
   refine hda (fun cw=>Ss cw cb M m q r A z x/\Blk cw fb (se1 f true true false false false d) 113) (⟨(U9.out.below (below_drew (Below.refl _ _))).ss m2 m1,U9.out.blk m0⟩) fun hHeld=> ?_
   have U10:Hid (Fx Y Y W [(fb,(se1 f true true false false false d),113),(r,abl x,84),(q,nbl A z,80)] O n' w9.drew cb M m s2 T' S' a' (J+3) R'):=U9.out.below (below_drew (Below.refl _ _))
   clear U9
   generalize w9.drew=U at hHeld U10 |-
   refine tma 0 97 rfl ?_
   try simp only [Act.put,zaa,zba,zca]
   refine tma 1 98 rfl ?_
   try simp only [Act.put,zaa,zba,zca]
   refine tma 2 99 rfl ?_
   try simp only [Act.put,zaa,zba,zca]
   refine tla 3 100 (pp M.mb) rfl ?_ ?_
   . intro w hSw;(try dsimp only at hSw);have r0:=hSw.1.c;(try go_simp);(try simp [*])
   try simp only [Act.put,zaa,zba,zca]
   refine tma 4 101 rfl ?_
   try simp only [Act.put,zaa,zba,zca]
   refine tma 5 102 rfl ?_
   try simp only [Act.put,zaa,zba,zca]
   refine tla 6 103 (pp M.tl) rfl ?_ ?_
   . intro w hSw;(try dsimp only at hSw);have r0:=hSw.1.l;(try go_simp);(try simp [*])
   try simp only [Act.put,zaa,zba,zca]
   refine tma 7 104 rfl ?_
   try simp only [Act.put,zaa,zba,zca]
   refine tma 8 105 rfl ?_
   try simp only [Act.put,zaa,zba,zca]
   refine tla 9 106 (nm A z) rfl ?_ ?_
   . intro w hSw;(try dsimp only at hSw);have r0:=Blk.cell hSw.1.q 0;have r1:=Blk.cell hSw.1.q 1;have r2:=Blk.cell hSw.1.q 2;(try go_simp);(try simp [*])
   try simp only [Act.put,zaa,zba,zca]
   refine tma 11 108 rfl ?_
   try simp only [Act.put,zaa,zba,zca]
   refine tla 12 109 (.int .i64 f) rfl ?_ ?_
   . intro w hSw;(try dsimp only at hSw);have r0:=Blk.cell hSw.2 0;(try go_simp);(try simp [*])
   try simp only [Act.put,zaa,zba,zca]
   refine tma 13 110 rfl ?_
   try simp only [Act.put,zaa,zba,zca]
   refine tla 14 111 (.agg (sn true true false)) rfl ?_ ?_
   . intro w hSw;(try dsimp only at hSw);have r0:=Blk.cell hSw.2 1;have r1:=Blk.cell hSw.2 2;have r2:=Blk.cell hSw.2 3;(try go_simp);(try simp [*])
   try simp only [Act.put,zaa,zba,zca]
   refine tma 15 112 rfl ?_
   try simp only [Act.put,zaa,zba,zca]
   refine tla 16 113 (.bool d) rfl ?_ ?_
   . intro w hSw;(try dsimp only at hSw);have r0:=Blk.cell hSw.2 6;(try go_simp);(try simp [*])
   try simp only [Act.put,zaa,zba,zca]
   refine rda 10 ⟨some 107,_,_,_,_,none⟩ rfl fun K hK=> ?_
   go_simp
   go_wp2_with (go_at_call 33;refine Calls.mono (PC.out _) ?_;rintro e u1 ⟨rfl,hb1⟩)
   have U11:Hid (Fx Y Y W [(fb,(se1 f true true false false false d),113),(r,abl x,84),(q,nbl A z,80)] O n' u1 cb M m s2 T' S' a' (J+3) R'):=U10.out.below hb1
   refine hK.out _ _ ⟨U11.out.ss m2 m1,U11.out.blk m0⟩ ?_
   clear hK K hHeld hb1 U10
   intro hHeld
   try simp only [Act.put,zaa,zba,zca]
   refine tma 17 114 rfl ?_
   try simp only [Act.put,zaa,zba,zca]
   refine rda 18 ⟨some 115,_,_,_,_,none⟩ rfl fun K hK=> ?_
   go_simp
   go_wp2_with (go_at_call 37;refine Calls.mono (U11.out.step (fun Y' hc=>hc.fill TG.out.2 TG.out.1 FI.out.1 (by show (0:Int)<=f;omega) d k HK.out)) ?_;rintro e u2 ⟨rfl,h1⟩)
   have U12:Hid _:=h1
   refine hK.out _ _ ⟨U12.out.ss m2 m1,U12.out.blk m0⟩ ?_
   clear hK K hHeld h1 U11
   intro hHeld
   try simp only [Act.put,zaa,zba,zca]
   clear hHeld
   refine wpAnyH_done ka ?_ _
   refine NoPanic.normal ?_
   have z0:u2.cell? ⟨fb,0,none⟩=some (.int .i64 f):=(U12.out.blk m0).cell 0
   have HE:Hid (Frm Y O W cb M m s a (J+3) R' p f u2):=⟨_,_,_,_,_,FI.out.1,U12.out.cw.1,U12.out.cw.2,FI.out.2⟩
   clear U12
   go_wp2_with fail
   go_returns
   exact Or.inl ⟨HP.out,f,rfl,HE.out⟩
end
section
variable {Y K:Nat->Prop} {O:Nat->Nat} {n:Nat} {W w w':World} {L:List (Nat × List Value × TypeId)} {cb:Nat} {M:Mb} {m:Pm} {s:Ps} {T:Nat->Tl.Ln} {S:Pc.Tg} {a:Sr} {J R:Nat}
theorem pick_is (x:Int): ∃ r c:Int,x.tmod 51=r/\(-51<r/\r<51)/\(r+51).tmod 51=c/\0<=c/\c<51:=by
 have h1:=Int.tmod_lt_of_pos x (show (0:Int)<51 by omega)
 have h2:=Int.lt_tmod_of_pos x (show (0:Int)<51 by omega)
 refine ⟨_,_,rfl,⟨by omega,h1⟩,rfl,?_⟩
 rw [Int.tmod_eq_emod_of_nonneg (by omega)]
 omega
structure Chop (Y:Nat->Prop) (O:Nat->Nat) (n:Nat) (W:World) (cb:Nat) (M:Mb) (m:Pm) (s:Ps) (T:Nat->Tl.Ln) (S:Pc.Tg) (a:Sr) (J R:Nat) (w:World):Prop where
 c:Cw Y O n w cb M m s T S a J R
 k:Kx (fun j=>Y j/\j≠cb) W w
 z: ∀ Z,(∀ j,Z j->Y j)->IsCpu Z W cb M.mb->IsCpu Z w cb M.mb
theorem Chop.refl (h:Cw Y O n W cb M m s T S a J R):Chop Y O n W cb M m s T S a J R W:=⟨h,Kept.refl _ _,fun _ _ h=>h⟩
theorem chop_cpu {Z:Nat->Prop} {mb b o k c o' c':Nat} (h:IsCpu Z W cb mb) (hb:Blk W cb [pp mb,.slice (some ⟨b,o,none⟩) (k+1) c] 39) (kc:k<=c') (ho:0<k->o'=o+1):IsCpu Z (W.setCell ⟨cb,1,none⟩ (.slice (some ⟨b,o',none⟩) k c')) cb mb:=by
 obtain ⟨h1,h2,lp,k0,c0,h3,h4,h5⟩:=h
 have e:=h3.symm.trans hb
 simp at e
 obtain ⟨rfl,rfl,rfl⟩:=e
 refine ⟨h1,h2,_,k,c',hb.set 1 _,kc,fun i hi=> ?_⟩
 obtain ⟨b',o1,x,e1,e2,e3,e4⟩:=h5 (i+1) (by omega)
 simp at e1
 obtain ⟨rfl,rfl⟩:=e1
 refine ⟨_,_,x,rfl,e2,e3,?_⟩
 rw [ho (by omega),show o+1+i=o+(i+1) by omega]
 exact (World.cell?_setCell_other _ _ _ _ (by intro e;injection e with e1;exact e3 e1.symm)).trans e4
theorem Cw.chop (h:Cw Y O n W cb M m s T S a J R) {b o k c o' c':Nat} (hb:Blk W cb [pp M.mb,.slice (some ⟨b,o,none⟩) (k+1) c] 39) (kc:k<=c') (ho:0<k->o'=o+1):Chop Y O n W cb M m s T S a J R (W.setCell ⟨cb,1,none⟩ (.slice (some ⟨b,o',none⟩) k c')).drew:=by
 have g:=Qu.grown_setCell1 W cb 1 (.slice (some ⟨b,o',none⟩) k c')
 have q:Cw Y O n (W.setCell ⟨cb,1,none⟩ (.slice (some ⟨b,o',none⟩) k c')) cb M m s T S a J R:=⟨h.mc.poke h.cpu.y h.cpu.n0 g,chop_cpu h.cpu hb kc ho,h.id,h.rg,h.gd,h.ln,h.n,h.g,h.q,h.l,h.nu⟩
 have k1:Kx (fun j=>Y j/\j≠cb) W (W.setCell ⟨cb,1,none⟩ (.slice (some ⟨b,o',none⟩) k c')):=kept_one g fun i hi=>⟨hi.2,h.mc.pu.lt i (Or.inl hi.1)⟩
 exact ⟨q.below (below_drew (Below.refl _ _)),⟨k1.os,k1.tape,k1.output,k1.size,k1.block⟩,fun Z y hZ=>(chop_cpu hZ hb kc ho).kept ⟨rfl,rfl,rfl,Nat.le_refl _,fun _ _=>rfl⟩⟩
theorem Cw.choose (h:Cw Y O n W cb M m s T S a J R):Calls Tryz.prog 17 #[pp cb] W fun e w'=> ∃ (y:Int) (T':Nat->Tl.Ln),e=.returned (.int .i64 y)/\(-1<=y/\y<=1)/\Chop Y O n W cb M m s T' S a J R w':=by
 obtain ⟨_,_,lp,k,c,hB,hc,he⟩:=h.cpu
 cases k with
 | zero =>
  have c1:W.cell? ⟨cb,1,none⟩=some (.slice lp 0 c):=hB.cell 1
  have HE:Hid _:=Chop.refl h
  clear h hB hc he
  go_enter Tryz.func17,Tryz.ntmps17
  go_wp2_with fail
  go_returns
  exact ⟨_,_,rfl,by decide,HE.out⟩
 | succ k =>
  obtain ⟨b,o,x,rfl,yb,nb,e0⟩:=he 0 (Nat.succ_pos _)
  have c1:W.cell? ⟨cb,1,none⟩=some (.slice (some ⟨b,o,none⟩) (k+1) c):=hB.cell 1
  have f1:W.frozen? ⟨cb,1,none⟩=false:=hB.free 1
  have d1:W.drew.cell? ⟨cb,1,none⟩=some (.slice (some ⟨b,o,none⟩) (k+1) c):=hB.cell 1
  have g1:W.drew.frozen? ⟨cb,1,none⟩=false:=hB.free 1
  rw [Nat.add_zero] at e0
  have e0d:W.drew.cell? ⟨b,o,none⟩=some (.int .i64 x):=e0
  have HC:Hid (∀ o' c',k<=c'->(0<k->o'=o+1)->Chop Y O n W cb M m s T S a J R (W.setCell ⟨cb,1,none⟩ (.slice (some ⟨b,o',none⟩) k c')).drew):=fun o' c' h1 h2=>h.chop hB h1 h2
  have s1:decide ((1:Int)<=((k+1:Nat):Int))=true:=kh
  have s4:(0:Int)<(k:Int)+1:=by omega
  clear h hB he
  go_enter Tryz.func17,Tryz.ntmps17
  go_upto_region 3 with fail
  go_cut [3] (fun v V=>v=.int .i64 x/\Hid (Chop Y O n W cb M m s T S a J R V))
  case first =>
   go_region
   all_goals (try go_wp2_with fail)
   all_goals go_meet
   all_goals exact ⟨rfl,HC.out _ _ (by omega) (by omega)⟩
  case rest =>
  obtain ⟨rfl,hq⟩:=hcut
  obtain ⟨w3,hw3⟩: ∃ w3,w3=wc:=⟨_,rfl⟩
  subst hw3
  have C3:Hid (Chop Y O n W cb M m s T S a J R w3):=hq.out
  clear hq HC c1 f1 d1 g1 e0 e0d s1 s4
  obtain ⟨r,q,e1,rr,e2,q0,q1⟩:=pick_is x
  have u1:IntKind.i64.wrap r=r:=ki1
  have u2:IntKind.i64.wrap (r+51)=r+51:=ki1
  have u3:IntKind.i64.wrap q=q:=ki1
  have t2:q.tmod 3=q % 3:=Int.tmod_eq_emod_of_nonneg q0
  have u6:IntKind.i64.wrap (q % 3)=q % 3:=ki1
  have u7:IntKind.i64.wrap (q % 3-1)=q % 3-1:=ki1
  have yy:Hid (-1<=q % 3-1/\q % 3-1<=1):=⟨by omega,by omega⟩
  by_cases hp:q<3
  . have t1:q.tdiv 3=0:=by rw [Int.tdiv_eq_ediv_of_nonneg q0];omega
    clear hp rr q0 q1
    go_wp2_with fail
    go_returns
    exact ⟨_,_,rfl,yy.out,C3.out⟩
  . obtain ⟨p,hp2,hp3⟩: ∃ p:Nat,q / 3=p+1/\p<16:=⟨(q / 3-1).toNat,by omega,by omega⟩
    have t1:q.tdiv 3=(p:Int)+1:=by rw [Int.tdiv_eq_ediv_of_nonneg q0];exact hp2
    have u4:IntKind.i64.wrap ((p:Int)+1)=p+1:=ki1
    have u5:IntKind.i64.wrap (p:Int)=p:=ki1
    have d0:decide ((p:Int)>=0)=true:=by simp
    have d1:decide (0<=(p:Int))=true:=by simp
    have t3:(p:Int).tmod 8=((p % 8:Nat):Int):=by rw [Int.tmod_eq_emod_of_nonneg (by omega)];omega
    have t4:(p:Int).tdiv 8=((p / 8:Nat):Int):=by rw [Int.tdiv_eq_ediv_of_nonneg (by omega)];omega
    have u8:IntKind.i64.wrap ((p % 8:Nat):Int)=((p % 8:Nat):Int):=ki1
    have u9:IntKind.i64.wrap ((p / 8:Nat):Int)=((p / 8:Nat):Int):=ki1
    have EC:Hid _:=C3.out.c.evict (p % 8) (p / 8) (by omega) (by omega)
    obtain ⟨x8,h8⟩: ∃ x8,x8=((p % 8:Nat):Int):=⟨_,rfl⟩
    obtain ⟨x9,h9⟩: ∃ x9,x9=((p / 8:Nat):Int):=⟨_,rfl⟩
    rw [<- h8] at t3 u8 EC
    rw [<- h9] at t4 u9 EC
    have b0:w3.cell? ⟨cb,0,none⟩=some (pp M.mb):=C3.out.c.cs.1
    have b3:w3.cell? ⟨M.mb,3,none⟩=some (pp M.tl):=C3.out.c.cs.2.2
    clear hp rr q0 q1 hp2 hp3 h8 h9
    go_wp2_with fail
    refine Calls.mono EC.out ?_
    rintro e w4 ⟨rfl,k1,k2⟩
    have C4:Hid (∃ T',Chop Y O n W cb M m s T' S a J R w4):=⟨_,k1,C3.out.k.trans (k2.sub fun j hj=>hj.1),fun Z y hZ=>(C3.out.z Z y hZ).kept (k2.sub y)⟩
    clear k1 k2 EC b0 b3 C3
    go_wp2_with fail
    go_returns
    obtain ⟨T',hT⟩:=C4.out
    exact ⟨_,T',rfl,yy.out,hT⟩
end
end Go.Proofs.YtgbdnnkkcpkhdaaGreatDoor.Sp
