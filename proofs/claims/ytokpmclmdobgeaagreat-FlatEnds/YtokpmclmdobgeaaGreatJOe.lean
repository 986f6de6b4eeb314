import Derived.Test.YtokpmclmdobgeaaGreatKZe
import Derived.Test.YtokpmclmdobgeaaGreatJNe
import Derived.Test.YtokpmclmdobgeaaGreatJMe
set_option linter.unusedSimpArgs false
set_option linter.unusedVariables false
set_option maxRecDepth 8000
set_option maxHeartbeats 4000000
open Go.ChangeShapes Go.WideShapes Go.ChangeAt Go.RowKit Go.Maps
namespace Go.Proofs.YtokpmclmdobgeaaGreat.Fl
section
variable {O:Nat->Nat} {n:Nat} {W:World} {M:Mb} {Q:Ca.Qu} {T:Nat->Qo.Nd} {root:Int} {I:Nat->Sh.Gr} {A:Nat->Option Pr} {B:Nat->Nat->Int}
theorem Mn.grants (h:Mn O n W M Q T root I A B) {V:World} {I':Nat->Sh.Gr} (hI:Sh.IsTab (ME M) V M.mb I') (hg:W.grownBy V (some M.mb)):Mn O n V M Q T root I' A B/\Ko O W V:=by
 have k: ∀ j,O j≠0->O j≠1->V.heap[j]? =W.heap[j]? :=fun j h0 h1=>hg.block j (h.lt j h0) (fun e=>h1 (by rw [sia e];exact h.o1))
 exact ⟨⟨⟨hI.2.2.2.1 0 _ rfl,hI.2.2.2.1 1 _ rfl,hI.2.2.2.2 0 _ rfl,hI.2.2.1⟩,h.que.kept fun _=>k _ kp1 kp1,tree_block h.tre hg.size (k _ (by rw [h.o3];omega) (by rw [h.o3];omega)),h.goo,hI,h.prm.block (k _ (by rw [h.o4];omega) (by rw [h.o4];omega)),fun i P hi e=>(h.prs i P hi e).keep (Nat.le_refl _) hg.size (fun _ _=>rfl) (fun j h1 h2=>k j (by omega) (by omega)),fun c hc=>⟨page_block (h.pag c hc).1 (k c (by omega) (by omega)),(h.pag c hc).2⟩,h.o1,h.o2,h.o3,h.o4,fun j hj=>nla (h.lt j hj) hg.size⟩,kept_grown hg fun j hj=>⟨fun e=>by have:=hj.1;rw [e,h.o1] at this;omega,hj.2⟩⟩
theorem offI_wrap (I:Nat->Sh.Gr) (f p d:Int):IntKind.u64.wrap (Sh.offI I f p d)=Sh.offI I f p d:=by
 have b:0<=Sh.offI I f p d/\Sh.offI I f p d<1000:=by
  unfold Sh.offI
  split
  . rename_i c
    have hf:f.toNat<16:=by
     unfold Sh.offE Sh.offB at c
     split at c
     . omega
     . rename_i z
       have z1:Sh.isProc f=true:=by
        cases e:Sh.isProc f
        . rw [e] at z;simp at z
        . rfl
       obtain ⟨k,hk,k16⟩:=Sh.proc_in z1
       rw [hk];simpa using k16
    have:=(Sh.free_le I 16 (f.toNat*16)).2
    omega
  . omega
 rw [IntKind.wrap_u64,Int.emod_eq_of_lt b.1 (by omega)]
theorem Mn.offer_none (h:Mn O n W M Q T root I A B) {i:Nat} {P:Pr} (hi:i<16) (hA:A i=some P) (k1 k2:Int) (k3 k4 k5:Bool) (ad sz x k6 k7 k8 k9:Int) (hw:(Lit.int .i64 k6).wf=true) (hb:prF A k6=none) :
 Calls Tryz.prog 34 #[pp M.mb,.int .i64 (i:Nat),.agg (sq 6 k1 k2 k3 k4 k5 ad sz x k6 k7 k8 k9)] W (re (.agg (sw 0 0 5 0 0 false)) W):=by
 have HM:Hid (Mn O n W M Q T root I A B):=h
 have HI:Hid (i<16/\A i=some P):=⟨hi,hA⟩
 have OB:Hid (∀ b,W.heap.size<=b->O b=0):=fun b hb=>bca fun hh=>by have:=h.lt b hh;omega
 have HW:Hid ((Lit.int .i64 k6).wf=true):=hw
 have HNB:Hid (prF A k6=none):=hb
 have s1:(W.alloc (.cells (sq 6 k1 k2 k3 k4 k5 ad sz x k6 k7 k8 k9) 70)).heap.size=W.heap.size+1:=World.size_alloc _ _
 have G0:Hid (bc W ((W.alloc (.cells (sq 6 k1 k2 k3 k4 k5 ad sz x k6 k7 k8 k9) 70)).alloc (.cells sl1 36))/\Blk ((W.alloc (.cells (sq 6 k1 k2 k3 k4 k5 ad sz x k6 k7 k8 k9) 70)).alloc (.cells sl1 36)) W.heap.size (su 6 k1 k2 k3 k4 k5 ad sz x k6 k7 k8 k9) 70/\Blk ((W.alloc (.cells (sq 6 k1 k2 k3 k4 k5 ad sz x k6 k7 k8 k9) 70)).alloc (.cells sl1 36)) (W.heap.size+1) sm1 36):=by
  have b2:bc (W.alloc (.cells (sq 6 k1 k2 k3 k4 k5 ad sz x k6 k7 k8 k9) 70)) ((W.alloc (.cells (sq 6 k1 k2 k3 k4 k5 ad sz x k6 k7 k8 k9) 70)).alloc (.cells sl1 36)):=baa
  refine ⟨below_then baa b2,(Blk.made _ _ _).below b2,?_⟩
  rw [<- s1];exact Blk.made _ _ _
 clear h hi hA s1 hw hb
 go_enter Tryz.func34,Tryz.ntmps34
 go_upto_region 1 with fail
 generalize ((W.alloc (.cells (sq 6 k1 k2 k3 k4 k5 ad sz x k6 k7 k8 k9) 70)).alloc (.cells sl1 36))=V2 at G0 |-
 obtain ⟨b2,hb2⟩: ∃ b2,b2=W.heap.size+1:=⟨_,rfl⟩
 obtain ⟨b1,hb1⟩: ∃ b1,b1=W.heap.size:=⟨_,rfl⟩
 have G1:Hid (bc W V2/\Blk V2 b1 (su 6 k1 k2 k3 k4 k5 ad sz x k6 k7 k8 k9) 70/\Blk V2 b2 sm1 36):=ku1
 have NB:Hid (W.heap.size<=b1/\W.heap.size<=b2/\b1≠b2):=⟨by omega,by omega,by omega⟩
 rw [<- hb2,<- hb1]
 clear hb1 hb2 G0
 refine hda (fun cw=>bc V2 cw) (below_drew (Below.refl _ _)) fun hHeld=> ?_
 generalize V2.drew=U at hHeld |-
 refine tma 0 11 rfl ?_
 try simp only [Act.put,zaa,zba,zca]
 refine tma 1 12 rfl ?_
 try simp only [Act.put,zaa,zba,zca]
 refine tma 2 13 rfl ?_
 try simp only [Act.put,zaa,zba,zca]
 refine tla 3 14 ((.map (some M.pm))) rfl ?_ ?_
 . exact kv1
 try simp only [Act.put,zaa,zba,zca]
 refine tma 4 15 rfl ?_
 try simp only [Act.put,zaa,zba,zca]
 refine tla 5 16 (.int .i64 k6) rfl ?_ ?_
 . exact k11
 try simp only [Act.put,zaa,zba,zca]
 refine tla 6 17 (.pointer none) rfl ?_ ?_
 . intro w hSw;(try dsimp only at hSw);have r:=(HM.out.below (below_then G1.out.1 hSw)).nobody k6 HW.out HNB.out;(try go_simp);(try simp [*])
 try simp only [Act.put,zaa,zba,zca]
 refine tma 7 18 rfl ?_
 try simp only [Act.put,zaa,zba,zca]
 refine tma 8 19 rfl ?_
 try simp only [Act.put,zaa,zba,zca]
 refine wpAnyH_take (i:=9) (oi:=⟨some 20,_,_,_,_,some (8,false)⟩) (v:=undef) rfl kc kc kc (fun _ _ _ h=>h) (Or.inr ⟨by rfl,rfl⟩) kj ?_
 try simp only [Act.put,zaa,zba,zca]
 refine wpAnyH_take (i:=10) (oi:=⟨some 21,_,_,_,_,some (8,false)⟩) (v:=undef) rfl kc kc kc (fun _ _ _ h=>h) (Or.inr ⟨by rfl,rfl⟩) kj ?_
 try simp only [Act.put,zaa,zba,zca]
 refine wpAnyH_take (i:=11) (oi:=⟨some 22,_,_,_,_,some (8,false)⟩) (v:=undef) rfl kc kc kc (fun _ _ _ h=>h) (Or.inr ⟨by rfl,rfl⟩) kj ?_
 try simp only [Act.put,zaa,zba,zca]
 refine wpAnyH_take (i:=12) (oi:=⟨some 23,_,_,_,_,some (8,false)⟩) (v:=undef) rfl kc kc kc (fun _ _ _ h=>h) (Or.inr ⟨by rfl,rfl⟩) kj ?_
 try simp only [Act.put,zaa,zba,zca]
 refine tma 13 24 rfl ?_
 try simp only [Act.put,zaa,zba,zca]
 have KE:Hid (bc V2 U):=hHeld
 clear hHeld
 refine wpAnyH_done kc ?_ _
 refine NoPanic.normal ?_
 have G3:Hid (bc W U/\Blk U b1 (su 6 k1 k2 k3 k4 k5 ad sz x k6 k7 k8 k9) 70/\Blk U b2 sm1 36):=⟨below_then G1.out.1 KE.out,G1.out.2.1.below KE.out,G1.out.2.2.below KE.out⟩
 clear KE G1
 have R2:Hid (Blk U b2 sm1 36):=G3.out.2.2
 go_upto_region 2 with fail
 refine wp_region_lit ?_
 iterate 3 go_step
 refine Tr.store_pat b2 0 (sw 0 0 5 0 0 false) rfl rfl R2.out.there result_info kq1 ?_
 have R4:Hid (Blk (U.setCells b2 0 ((sw 0 0 5 0 0 false):Array Value).toList) b2 (sx 0 0 5 0 0 false) 36):=R2.out.put rfl
 have GK:=grown_setCells b2 ((sw 0 0 5 0 0 false):Array Value).toList 0 U
 generalize U.setCells b2 0 ((sw 0 0 5 0 0 false):Array Value).toList=V8 at R4 GK |-
 have HE:Hid (bc W V8):=G3.out.1.trans ⟨GK.os,GK.tape,GK.output,GK.size,fun j hj=>GK.block j (nla hj (G3.out.1).size) (fun e=>by have:=sia e;have:=NB.out;omega)⟩
 clear GK
 go_wp2_with fail
 have LV:(loadVar 36 ⟨b2,0,none⟩).run Tryz.prog V8=.ok (.agg (sw 0 0 5 0 0 false)) V8:=run_loadVar_mid (P:=Tryz.prog) _ b2 0 36 (sx 0 0 5 0 0 false) _ R4.out.range Tryz.underlying36 rfl kc
 refine bodyPost_ret (v:=.agg (sw 0 0 5 0 0 false)) (results_one Tryz.results34 _ _ _ ⟨b2,0,none⟩ _ rfl LV) rfl ?_
 exact ⟨rfl,HE.out⟩
theorem Mn.offer_self (h:Mn O n W M Q T root I A B) {i:Nat} {P:Pr} (hi:i<16) (hA:A i=some P) (k1 k2:Int) (k3 k4 k5:Bool) (ad sz x k6 k7 k8 k9:Int) (hw:(Lit.int .i64 k6).wf=true) (hb:prF A k6≠none) (hk:k6=(i:Nat)) :
 Calls Tryz.prog 34 #[pp M.mb,.int .i64 (i:Nat),.agg (sq 6 k1 k2 k3 k4 k5 ad sz x k6 k7 k8 k9)] W (re (.agg (sw 0 0 5 0 0 false)) W):=by
 have HM:Hid (Mn O n W M Q T root I A B):=h
 have HI:Hid (i<16/\A i=some P):=⟨hi,hA⟩
 have OB:Hid (∀ b,W.heap.size<=b->O b=0):=fun b hb=>bca fun hh=>by have:=h.lt b hh;omega
 have HW:Hid ((Lit.int .i64 k6).wf=true):=hw
 obtain ⟨pb6,hpb⟩:=Option.ne_none_iff_exists'.1 hb
 have HSB:Hid (prF A k6=some pb6):=hpb
 have HS:Hid ((k6==((i:Nat):Int))=true):=by show _=_;simp [hk]
 have s1:(W.alloc (.cells (sq 6 k1 k2 k3 k4 k5 ad sz x k6 k7 k8 k9) 70)).heap.size=W.heap.size+1:=World.size_alloc _ _
 have G0:Hid (bc W ((W.alloc (.cells (sq 6 k1 k2 k3 k4 k5 ad sz x k6 k7 k8 k9) 70)).alloc (.cells sl1 36))/\Blk ((W.alloc (.cells (sq 6 k1 k2 k3 k4 k5 ad sz x k6 k7 k8 k9) 70)).alloc (.cells sl1 36)) W.heap.size (su 6 k1 k2 k3 k4 k5 ad sz x k6 k7 k8 k9) 70/\Blk ((W.alloc (.cells (sq 6 k1 k2 k3 k4 k5 ad sz x k6 k7 k8 k9) 70)).alloc (.cells sl1 36)) (W.heap.size+1) sm1 36):=by
  have b2:bc (W.alloc (.cells (sq 6 k1 k2 k3 k4 k5 ad sz x k6 k7 k8 k9) 70)) ((W.alloc (.cells (sq 6 k1 k2 k3 k4 k5 ad sz x k6 k7 k8 k9) 70)).alloc (.cells sl1 36)):=baa
  refine ⟨below_then baa b2,(Blk.made _ _ _).below b2,?_⟩
  rw [<- s1];exact Blk.made _ _ _
 clear h hi hA s1 hw hb hpb hk
 go_enter Tryz.func34,Tryz.ntmps34
 go_upto_region 1 with fail
 generalize ((W.alloc (.cells (sq 6 k1 k2 k3 k4 k5 ad sz x k6 k7 k8 k9) 70)).alloc (.cells sl1 36))=V2 at G0 |-
 obtain ⟨b2,hb2⟩: ∃ b2,b2=W.heap.size+1:=⟨_,rfl⟩
 obtain ⟨b1,hb1⟩: ∃ b1,b1=W.heap.size:=⟨_,rfl⟩
 have G1:Hid (bc W V2/\Blk V2 b1 (su 6 k1 k2 k3 k4 k5 ad sz x k6 k7 k8 k9) 70/\Blk V2 b2 sm1 36):=ku1
 have NB:Hid (W.heap.size<=b1/\W.heap.size<=b2/\b1≠b2):=⟨by omega,by omega,by omega⟩
 rw [<- hb2,<- hb1]
 clear hb1 hb2 G0
 refine hda (fun cw=>bc V2 cw) (below_drew (Below.refl _ _)) fun hHeld=> ?_
 generalize V2.drew=U at hHeld |-
 refine tma 0 11 rfl ?_
 try simp only [Act.put,zaa,zba,zca]
 refine tma 1 12 rfl ?_
 try simp only [Act.put,zaa,zba,zca]
 refine tma 2 13 rfl ?_
 try simp only [Act.put,zaa,zba,zca]
 refine tla 3 14 ((.map (some M.pm))) rfl ?_ ?_
 . exact kv1
 try simp only [Act.put,zaa,zba,zca]
 refine tma 4 15 rfl ?_
 try simp only [Act.put,zaa,zba,zca]
 refine tla 5 16 (.int .i64 k6) rfl ?_ ?_
 . exact k11
 try simp only [Act.put,zaa,zba,zca]
 refine tla 6 17 (pp pb6) rfl ?_ ?_
 . intro w hSw;(try dsimp only at hSw);have r:(Instr.lookup 53 (.map (some M.pm)) (.int .i64 k6) false).run Tryz.prog w=.ok (pp pb6) w:=(by have q:=(HM.out.below (below_then G1.out.1 hSw)).prm.look HW.out;rw [HSB.out] at q;exact q);(try go_simp);(try simp [*])
 try simp only [Act.put,zaa,zba,zca]
 refine tma 7 18 rfl ?_
 try simp only [Act.put,zaa,zba,zca]
 refine tma 8 19 rfl ?_
 try simp only [Act.put,zaa,zba,zca]
 refine wpAnyH_take (i:=9) (oi:=⟨some 20,_,_,_,_,some (8,false)⟩) (v:= ?_) rfl kc kc kc (fun _ _ _ h=>h) (Or.inl ⟨by rfl,?_⟩) kj ?_
 rotate_left
 . exact kp
 try simp only [Act.put,zaa,zba,zca]
 refine wpAnyH_take (i:=10) (oi:=⟨some 21,_,_,_,_,some (8,false)⟩) (v:=(.int .i64 k6)) rfl kc kc kc (fun _ _ _ h=>h) (Or.inl ⟨by rfl,?_⟩) kj ?_
 . exact k11
 try simp only [Act.put,zaa,zba,zca]
 refine wpAnyH_take (i:=11) (oi:=⟨some 22,_,_,_,_,some (8,false)⟩) (v:= ?_) rfl kc kc kc (fun _ _ _ h=>h) (Or.inl ⟨by rfl,?_⟩) kj ?_
 rotate_left
 . exact kp
 try simp only [Act.put,zaa,zba,zca]
 refine wpAnyH_take (i:=12) (oi:=⟨some 23,_,_,_,_,some (8,false)⟩) (v:=(.bool true)) rfl kc kc kc (fun _ _ _ h=>h) (Or.inl ⟨by rfl,?_⟩) kj ?_
 . intro w hSw;(try dsimp only at hSw);have r:=HS.out;(try go_simp);(try simp [*])
 try simp only [Act.put,zaa,zba,zca]
 refine tma 13 24 rfl ?_
 try simp only [Act.put,zaa,zba,zca]
 have KE:Hid (bc V2 U):=hHeld
 clear hHeld
 refine wpAnyH_done kc ?_ _
 refine NoPanic.normal ?_
 have G3:Hid (bc W U/\Blk U b1 (su 6 k1 k2 k3 k4 k5 ad sz x k6 k7 k8 k9) 70/\Blk U b2 sm1 36):=⟨below_then G1.out.1 KE.out,G1.out.2.1.below KE.out,G1.out.2.2.below KE.out⟩
 clear KE G1
 have R2:Hid (Blk U b2 sm1 36):=G3.out.2.2
 go_upto_region 2 with fail
 refine wp_region_lit ?_
 iterate 3 go_step
 refine Tr.store_pat b2 0 (sw 0 0 5 0 0 false) rfl rfl R2.out.there result_info kq1 ?_
 have R4:Hid (Blk (U.setCells b2 0 ((sw 0 0 5 0 0 false):Array Value).toList) b2 (sx 0 0 5 0 0 false) 36):=R2.out.put rfl
 have GK:=grown_setCells b2 ((sw 0 0 5 0 0 false):Array Value).toList 0 U
 generalize U.setCells b2 0 ((sw 0 0 5 0 0 false):Array Value).toList=V8 at R4 GK |-
 have HE:Hid (bc W V8):=G3.out.1.trans ⟨GK.os,GK.tape,GK.output,GK.size,fun j hj=>GK.block j (nla hj (G3.out.1).size) (fun e=>by have:=sia e;have:=NB.out;omega)⟩
 clear GK
 go_wp2_with fail
 have LV:(loadVar 36 ⟨b2,0,none⟩).run Tryz.prog V8=.ok (.agg (sw 0 0 5 0 0 false)) V8:=run_loadVar_mid (P:=Tryz.prog) _ b2 0 36 (sx 0 0 5 0 0 false) _ R4.out.range Tryz.underlying36 rfl kc
 refine bodyPost_ret (v:=.agg (sw 0 0 5 0 0 false)) (results_one Tryz.results34 _ _ _ ⟨b2,0,none⟩ _ rfl LV) rfl ?_
 exact ⟨rfl,HE.out⟩
theorem Mn.offer (h:Mn O n W M Q T root I A B) {i:Nat} {P:Pr} (hi:i<16) (hA:A i=some P) (k1 k2:Int) (k3 k4 k5:Bool) (ad sz x k6 k7 k8 k9:Int) (hw:(Lit.int .i64 k6).wf=true) (hb:prF A k6≠none) (hk:k6≠(i:Nat)) (p0:0<=k1) (p1:k1<34359738368) (E:Int) (hl:lendE P k1 k3=E) :
 Calls Tryz.prog 34 #[pp M.mb,.int .i64 (i:Nat),.agg (sq 6 k1 k2 k3 k4 k5 ad sz x k6 k7 k8 k9)] W fun e w'=>Rd (E=0) (e=.returned (.agg (sw 0 (Sh.offI I (i:Nat) k1 k6) (Sh.offE I (i:Nat) k1 k6) 0 0 false))/\Tx O W (fun O' V=>Mn O' n V M Q T root (Sh.offT I (i:Nat) k1 k6 k3) A B) w') (e=.returned (.agg (sw 0 0 E 0 0 false))/\bc W w'):=by
 have HM:Hid (Mn O n W M Q T root I A B):=h
 have HI:Hid (i<16/\A i=some P):=⟨hi,hA⟩
 have OB:Hid (∀ b,W.heap.size<=b->O b=0):=fun b hb=>bca fun hh=>by have:=h.lt b hh;omega
 have HW:Hid ((Lit.int .i64 k6).wf=true):=hw
 obtain ⟨pb6,hpb⟩:=Option.ne_none_iff_exists'.1 hb
 have HSB:Hid (prF A k6=some pb6):=hpb
 have HS:Hid ((k6==((i:Nat):Int))=false):=by show _=_;simp [hk]
 have LBC:Hid (∀ w,bc W w->Calls Tryz.prog 58 #[pp P.pb,.int .i64 k1,.bool k3] w (re (.int .i64 E) w)):=fun w hb=>by
  have q:=lendable_any ((HM.out.below hb).prs i P hi hA) k1 p0 p1 k3
  rw [hl] at q;exact q
 obtain ⟨oi,hoi⟩: ∃ oi,Sh.offI I (i:Nat) k1 k6=oi:=⟨_,rfl⟩
 obtain ⟨oe,hoe⟩: ∃ oe,Sh.offE I (i:Nat) k1 k6=oe:=⟨_,rfl⟩
 have wo:IntKind.u64.wrap oi=oi:=by rw [<- hoi];exact offI_wrap _ _ _ _
 have OC:Hid (∀ w,bc W w->Calls Tryz.prog 59 #[.pointer (some ⟨M.mb,2,none⟩),.int .i64 (i:Nat),.int .i64 k1,.int .i64 k6,.bool k3] w fun e w'=>e=.returned (.tuple #[.int .i64 oi,.int .i64 oe])/\Sh.IsTab (ME M) w' M.mb (Sh.offT I (i:Nat) k1 k6 k3)/\w.grownBy w' (some M.mb)):=fun w hb=>by
  have q:=Sh.offer_any M.mb I (i:Nat) k1 k6 k3 w (HM.out.below hb).gra
  rw [hoi,hoe] at q;exact q
 rw [hoi,hoe]
 obtain ⟨PO,hPO⟩: ∃ PO:Ending->World->Prop,PO=fun e w'=>Rd (E=0) (e=.returned (.agg (sw 0 oi oe 0 0 false))/\Tx O W (fun O' V=>Mn O' n V M Q T root (Sh.offT I (i:Nat) k1 k6 k3) A B) w') (e=.returned (.agg (sw 0 0 E 0 0 false))/\bc W w'):=⟨_,rfl⟩
 rw [<- hPO]
 have HPO:Hid (∀ e w',Rd (E=0) (e=.returned (.agg (sw 0 oi oe 0 0 false))/\Tx O W (fun O' V=>Mn O' n V M Q T root (Sh.offT I (i:Nat) k1 k6 k3) A B) w') (e=.returned (.agg (sw 0 0 E 0 0 false))/\bc W w')->PO e w'):=fun e w' z=>by rw [hPO];exact z
 have s1:(W.alloc (.cells (sq 6 k1 k2 k3 k4 k5 ad sz x k6 k7 k8 k9) 70)).heap.size=W.heap.size+1:=World.size_alloc _ _
 have G0:Hid (bc W ((W.alloc (.cells (sq 6 k1 k2 k3 k4 k5 ad sz x k6 k7 k8 k9) 70)).alloc (.cells sl1 36))/\Blk ((W.alloc (.cells (sq 6 k1 k2 k3 k4 k5 ad sz x k6 k7 k8 k9) 70)).alloc (.cells sl1 36)) W.heap.size (su 6 k1 k2 k3 k4 k5 ad sz x k6 k7 k8 k9) 70/\Blk ((W.alloc (.cells (sq 6 k1 k2 k3 k4 k5 ad sz x k6 k7 k8 k9) 70)).alloc (.cells sl1 36)) (W.heap.size+1) sm1 36):=by
  have b2:bc (W.alloc (.cells (sq 6 k1 k2 k3 k4 k5 ad sz x k6 k7 k8 k9) 70)) ((W.alloc (.cells (sq 6 k1 k2 k3 k4 k5 ad sz x k6 k7 k8 k9) 70)).alloc (.cells sl1 36)):=baa
  refine ⟨below_then baa b2,(Blk.made _ _ _).below b2,?_⟩
  rw [<- s1];exact Blk.made _ _ _
 clear h hi hA s1 hw hb hpb hk p0 p1 hl hoi hoe hPO
 go_enter Tryz.func34,Tryz.ntmps34
 go_upto_region 1 with fail
 generalize ((W.alloc (.cells (sq 6 k1 k2 k3 k4 k5 ad sz x k6 k7 k8 k9) 70)).alloc (.cells sl1 36))=V2 at G0 |-
 obtain ⟨b2,hb2⟩: ∃ b2,b2=W.heap.size+1:=⟨_,rfl⟩
 obtain ⟨b1,hb1⟩: ∃ b1,b1=W.heap.size:=⟨_,rfl⟩
 have G1:Hid (bc W V2/\Blk V2 b1 (su 6 k1 k2 k3 k4 k5 ad sz x k6 k7 k8 k9) 70/\Blk V2 b2 sm1 36):=ku1
 have NB:Hid (W.heap.size<=b1/\W.heap.size<=b2/\b1≠b2):=⟨by omega,by omega,by omega⟩
 rw [<- hb2,<- hb1]
 clear hb1 hb2 G0
 refine hda (fun cw=>bc V2 cw) (below_drew (Below.refl _ _)) fun hHeld=> ?_
 generalize V2.drew=U at hHeld |-
 refine tma 0 11 rfl ?_
 try simp only [Act.put,zaa,zba,zca]
 refine tma 1 12 rfl ?_
 try simp only [Act.put,zaa,zba,zca]
 refine tma 2 13 rfl ?_
 try simp only [Act.put,zaa,zba,zca]
 refine tla 3 14 ((.map (some M.pm))) rfl ?_ ?_
 . exact kv1
 try simp only [Act.put,zaa,zba,zca]
 refine tma 4 15 rfl ?_
 try simp only [Act.put,zaa,zba,zca]
 refine tla 5 16 (.int .i64 k6) rfl ?_ ?_
 . exact k11
 try simp only [Act.put,zaa,zba,zca]
 refine tla 6 17 (pp pb6) rfl ?_ ?_
 . intro w hSw;(try dsimp only at hSw);have r:(Instr.lookup 53 (.map (some M.pm)) (.int .i64 k6) false).run Tryz.prog w=.ok (pp pb6) w:=(by have q:=(HM.out.below (below_then G1.out.1 hSw)).prm.look HW.out;rw [HSB.out] at q;exact q);(try go_simp);(try simp [*])
 try simp only [Act.put,zaa,zba,zca]
 refine tma 7 18 rfl ?_
 try simp only [Act.put,zaa,zba,zca]
 refine tma 8 19 rfl ?_
 try simp only [Act.put,zaa,zba,zca]
 refine wpAnyH_take (i:=9) (oi:=⟨some 20,_,_,_,_,some (8,false)⟩) (v:= ?_) rfl kc kc kc (fun _ _ _ h=>h) (Or.inl ⟨by rfl,?_⟩) kj ?_
 rotate_left
 . exact kp
 try simp only [Act.put,zaa,zba,zca]
 refine wpAnyH_take (i:=10) (oi:=⟨some 21,_,_,_,_,some (8,false)⟩) (v:=(.int .i64 k6)) rfl kc kc kc (fun _ _ _ h=>h) (Or.inl ⟨by rfl,?_⟩) kj ?_
 . exact k11
 try simp only [Act.put,zaa,zba,zca]
 refine wpAnyH_take (i:=11) (oi:=⟨some 22,_,_,_,_,some (8,false)⟩) (v:= ?_) rfl kc kc kc (fun _ _ _ h=>h) (Or.inl ⟨by rfl,?_⟩) kj ?_
 rotate_left
 . exact kp
 try simp only [Act.put,zaa,zba,zca]
 refine wpAnyH_take (i:=12) (oi:=⟨some 23,_,_,_,_,some (8,false)⟩) (v:=(.bool false)) rfl kc kc kc (fun _ _ _ h=>h) (Or.inl ⟨by rfl,?_⟩) kj ?_
 . intro w hSw;(try dsimp only at hSw);have r:=HS.out;(try go_simp);(try simp [*])
 try simp only [Act.put,zaa,zba,zca]
 refine tma 13 24 rfl ?_
 try simp only [Act.put,zaa,zba,zca]
 have KE:Hid (bc V2 U):=hHeld
 clear hHeld
 refine wpAnyH_done kc ?_ _
 refine NoPanic.normal ?_
 have G3:Hid (bc W U/\Blk U b1 (su 6 k1 k2 k3 k4 k5 ad sz x k6 k7 k8 k9) 70/\Blk U b2 sm1 36):=⟨below_then G1.out.1 KE.out,G1.out.2.1.below KE.out,G1.out.2.2.below KE.out⟩
 clear KE G1
 have x1:U.cell? ⟨b1,1,none⟩=some (.int .i64 k1):=G3.out.2.1.cell 1
 go_upto_region 4 with fail
 clear x1
 refine hda (fun cw=>bc U cw) (below_drew (Below.refl _ _)) fun hHeld=> ?_
 generalize U.drew=X at hHeld |-
 refine tma 0 29 rfl ?_
 try simp only [Act.put,zaa,zba,zca]
 refine tma 1 30 rfl ?_
 try simp only [Act.put,zaa,zba,zca]
 refine tma 2 31 rfl ?_
 try simp only [Act.put,zaa,zba,zca]
 refine tla 3 32 ((.map (some M.pm))) rfl ?_ ?_
 . intro w hSw;(try dsimp only at hSw);have r:w.cell? ⟨M.mb,1538,none⟩=some (.map (some M.pm)):=(HM.out.below (below_then G3.out.1 hSw)).mod.2.2.1;(try go_simp);(try simp [*])
 try simp only [Act.put,zaa,zba,zca]
 refine tma 4 33 rfl ?_
 try simp only [Act.put,zaa,zba,zca]
 refine tla 5 34 (pp P.pb) rfl ?_ ?_
 . intro w hSw;(try dsimp only at hSw);have r:=(HM.out.below (below_then G3.out.1 hSw)).proc HI.out.1 HI.out.2;(try go_simp);(try simp [*])
 try simp only [Act.put,zaa,zba,zca]
 refine tma 6 35 rfl ?_
 try simp only [Act.put,zaa,zba,zca]
 refine tma 7 36 rfl ?_
 try simp only [Act.put,zaa,zba,zca]
 refine tma 8 37 rfl ?_
 try simp only [Act.put,zaa,zba,zca]
 refine tla 9 38 (.bool k3) rfl ?_ ?_
 . intro w hSw;(try dsimp only at hSw);have r:w.cell? ⟨b1,3,none⟩=some (.bool k3):=(G3.out.2.1.below hSw).cell 3;(try go_simp);(try simp [*])
 try simp only [Act.put,zaa,zba,zca]
 refine rda 10 ⟨some 39,_,_,_,_,none⟩ rfl fun K hK=> ?_
 go_simp
 go_wp2_with (go_at_call 58;refine Calls.mono (LBC.out _ (below_then G3.out.1 hHeld)) ?_;rintro e x1 ⟨rfl,hb⟩)
 refine hK.out _ _ (below_then hHeld hb) ?_
 clear hK K hHeld
 intro hHeld
 try simp only [Act.put,zaa,zba,zca]
 refine tma 11 8 rfl ?_
 try simp only [Act.put,zaa,zba,zca]
 have KE:Hid (bc U x1):=hHeld
 clear hHeld
 refine wpAnyH_done kc ?_ _
 refine NoPanic.normal ?_
 have G4:Hid (bc W x1/\Blk x1 b1 (su 6 k1 k2 k3 k4 k5 ad sz x k6 k7 k8 k9) 70/\Blk x1 b2 sm1 36):=⟨below_then G3.out.1 KE.out,G3.out.2.1.below KE.out,G3.out.2.2.below KE.out⟩
 clear KE G3 LBC
 by_cases E0:E=0
 rotate_left
 . skip
   have d1:decide (E=0)=false:=by simp [E0]
   have d2:(E==0)=false:=by simp [E0]
   have d3:(E != 0)=true:=by simp [E0]
   have NE:Hid (¬ E=0):=E0
   clear E0
   have R2:Hid (Blk x1 b2 sm1 36):=G4.out.2.2
   go_upto_region 6 with fail
   refine wp_region_lit ?_
   iterate 6 go_step
   refine Tr.store_pat b2 0 (sw 0 0 E 0 0 false) rfl rfl R2.out.there result_info kq1 ?_
   have R4:Hid (Blk (x1.setCells b2 0 ((sw 0 0 E 0 0 false):Array Value).toList) b2 (sx 0 0 E 0 0 false) 36):=R2.out.put rfl
   have GK:=grown_setCells b2 ((sw 0 0 E 0 0 false):Array Value).toList 0 x1
   generalize x1.setCells b2 0 ((sw 0 0 E 0 0 false):Array Value).toList=V8 at R4 GK |-
   have HE:Hid (bc W V8):=G4.out.1.trans ⟨GK.os,GK.tape,GK.output,GK.size,fun j hj=>GK.block j (nla hj (G4.out.1).size) (fun e=>by have:=sia e;have:=NB.out;omega)⟩
   clear GK
   go_wp2_with fail
   have LV:(loadVar 36 ⟨b2,0,none⟩).run Tryz.prog V8=.ok (.agg (sw 0 0 E 0 0 false)) V8:=run_loadVar_mid (P:=Tryz.prog) _ b2 0 36 (sx 0 0 E 0 0 false) _ R4.out.range Tryz.underlying36 rfl kc
   refine bodyPost_ret (v:=.agg (sw 0 0 E 0 0 false)) (results_one Tryz.results34 _ _ _ ⟨b2,0,none⟩ _ rfl LV) rfl ?_
   exact HPO.out _ _ (Rd.n NE.out ⟨rfl,HE.out⟩)
 subst E0
 go_upto_region 7 with fail
 refine hda (fun cw=>Blk cw b1 (su 6 k1 k2 k3 k4 k5 ad sz x k6 k7 k8 k9) 70) G4.out.2.1 fun hHeld=> ?_
 have KU:Hid (bc W x1.drew):=below_drew G4.out.1
 have Z7:Hid (Blk x1.drew b2 sm1 36):=G4.out.2.2
 clear G4
 generalize x1.drew=U7 at hHeld KU Z7 |-
 refine tma 0 45 rfl ?_
 try simp only [Act.put,zaa,zba,zca]
 refine tma 1 46 rfl ?_
 try simp only [Act.put,zaa,zba,zca]
 refine tma 2 47 rfl ?_
 try simp only [Act.put,zaa,zba,zca]
 refine tma 3 48 rfl ?_
 try simp only [Act.put,zaa,zba,zca]
 refine tma 4 49 rfl ?_
 try simp only [Act.put,zaa,zba,zca]
 refine tma 5 50 rfl ?_
 try simp only [Act.put,zaa,zba,zca]
 refine tla 6 51 (.int .i64 k6) rfl ?_ ?_
 . exact k21
 try simp only [Act.put,zaa,zba,zca]
 refine tma 7 52 rfl ?_
 try simp only [Act.put,zaa,zba,zca]
 refine tma 8 53 rfl ?_
 try simp only [Act.put,zaa,zba,zca]
 refine tla 9 54 (.bool k3) rfl ?_ ?_
 . intro w hSw;(try dsimp only at hSw);have r:w.cell? ⟨b1,3,none⟩=some (.bool k3):=hSw.cell 3;(try go_simp);(try simp [*])
 try simp only [Act.put,zaa,zba,zca]
 refine rda 10 ⟨some 55,_,_,_,_,none⟩ rfl fun K hK=> ?_
 go_simp
 go_wp2_with (go_at_call 59;refine Calls.mono (OC.out _ KU.out) ?_;rintro e u7 ⟨rfl,ht7,hg7⟩)
 have MB:Hid (M.mb<W.heap.size):=HM.out.lt _ (by rw [HM.out.o1];omega)
 have S2:Hid (Blk u7 b1 (su 6 k1 k2 k3 k4 k5 ad sz x k6 k7 k8 k9) 70):=(hg7.block b1 hHeld.lt (fun e=>by have:=sia e;have:=MB.out;have:=NB.out;omega)).trans hHeld
 have R2:Hid (Blk u7 b2 sm1 36):=(hg7.block b2 Z7.out.lt (fun e=>by have:=sia e;have:=MB.out;have:=NB.out;omega)).trans Z7.out
 have MG:=(HM.out.below KU.out).grants ht7 hg7
 have M7:Hid (Mn O n u7 M Q T root (Sh.offT I (i:Nat) k1 k6 k3) A B):=MG.1
 have K7:Hid (Ko O W u7):=(Ko.of_below KU.out).trans (MG.2.sub fun j hj=>⟨hj.1,nla hj.2 KU.out.size⟩)
 clear MG
 refine hK.out _ _ S2.out ?_
 clear hK K hHeld ht7 hg7 S2 KU
 intro hHeld
 try simp only [Act.put,zaa,zba,zca]
 refine tma 11 44 rfl ?_
 try simp only [Act.put,zaa,zba,zca]
 refine tma 12 56 rfl ?_
 try simp only [Act.put,zaa,zba,zca]
 refine tma 13 57 rfl ?_
 try simp only [Act.put,zaa,zba,zca]
 refine tma 14 9 rfl ?_
 try simp only [Act.put,zaa,zba,zca]
 refine tma 15 10 rfl ?_
 try simp only [Act.put,zaa,zba,zca]
 clear hHeld
 refine wpAnyH_done kc ?_ _
 refine NoPanic.normal ?_
 go_upto_region 8 with fail
 refine wp_region_lit ?_
 iterate 12 go_step
 refine Tr.store_pat b2 0 (sw 0 oi oe 0 0 false) rfl rfl R2.out.there result_info kq1 ?_
 have R4:Hid (Blk (u7.setCells b2 0 ((sw 0 oi oe 0 0 false):Array Value).toList) b2 (sx 0 oi oe 0 0 false) 36):=R2.out.put rfl
 have GK:=grown_setCells b2 ((sw 0 oi oe 0 0 false):Array Value).toList 0 u7
 generalize u7.setCells b2 0 ((sw 0 oi oe 0 0 false):Array Value).toList=V8 at R4 GK |-
 have HE:Hid (Tx O W (fun O' V=>Mn O' n V M Q T root (Sh.offT I (i:Nat) k1 k6 k3) A B) V8):=⟨O,M7.out.keep GK.size (fun j hj=>GK.block j (M7.out.lt j hj) (fun e=>hj (by rw [sia e];exact OB.out b2 NB.out.2.1))),fun _ _=>rfl,fun j hj=>nla (M7.out.lt j hj) GK.size,K7.out.trans ⟨GK.os,GK.tape,GK.output,GK.size,fun j hj=>GK.block j (nla hj.2 K7.out.size) (fun e=>by have:=sia e;have:=NB.out;omega)⟩⟩
 clear GK
 go_wp2_with fail
 have LV:(loadVar 36 ⟨b2,0,none⟩).run Tryz.prog V8=.ok (.agg (sw 0 oi oe 0 0 false)) V8:=run_loadVar_mid (P:=Tryz.prog) _ b2 0 36 (sx 0 oi oe 0 0 false) _ R4.out.range Tryz.underlying36 rfl kc
 refine bodyPost_ret (v:=.agg (sw 0 oi oe 0 0 false)) (results_one Tryz.results34 _ _ _ ⟨b2,0,none⟩ _ rfl LV) rfl ?_
 exact HPO.out _ _ (Rd.t ⟨rfl,HE.out⟩)
theorem Mn.tree (h:Mn O n W M Q T root I A B) {V:World} {T':Nat->Qo.Nd} (hT:Qo.IsTree V M.tb T') (hG:Qo.Good T' root) (hg:W.grownBy V (some M.tb)):Mn O n V M Q T' root I A B/\Ko O W V:=by
 have k: ∀ j,O j≠0->O j≠3->V.heap[j]? =W.heap[j]? :=fun j h0 h1=>hg.block j (h.lt j h0) (fun e=>h1 (by rw [sia e];exact h.o3))
 exact ⟨⟨h.mod.block hg.size (k _ kn1 kn1),h.que.kept fun _=>k _ kp1 kp1,hT,hG,tab_block h.gra hg.size (k _ kn1 kn1),h.prm.block (k _ (by rw [h.o4];omega) (by rw [h.o4];omega)),fun i P hi e=>(h.prs i P hi e).keep (Nat.le_refl _) hg.size (fun _ _=>rfl) (fun j h1 h2=>k j (by omega) (by omega)),fun c hc=>⟨page_block (h.pag c hc).1 (k c (by omega) (by omega)),(h.pag c hc).2⟩,h.o1,h.o2,h.o3,h.o4,fun j hj=>nla (h.lt j hj) hg.size⟩,kept_grown hg fun j hj=>⟨fun e=>by have:=hj.1;rw [e,h.o3] at this;omega,hj.2⟩⟩
theorem Mn.queue (h:Mn O n W M Q T root I A B) {V:World} {Q':Ca.Qu} (hQ:Ca.IsQ V M.tq Q') (hg:Ca.Kb M.tq W V):Mn O n V M Q' T root I A B/\Ko O W V:=by
 have k: ∀ j,O j≠0->O j≠2->V.heap[j]? =W.heap[j]? :=fun j h0 h1=>hg.block j (h.lt j h0) (fun e=>h1 (by rw [e];exact h.o2))
 exact ⟨⟨h.mod.block hg.size (k _ kn1 kn1),hQ,tree_block h.tre hg.size (k _ (by rw [h.o3];omega) (by rw [h.o3];omega)),h.goo,tab_block h.gra hg.size (k _ kn1 kn1),h.prm.block (k _ (by rw [h.o4];omega) (by rw [h.o4];omega)),fun i P hi e=>(h.prs i P hi e).keep (Nat.le_refl _) hg.size (fun _ _=>rfl) (fun j h1 h2=>k j (by omega) (by omega)),fun c hc=>⟨page_block (h.pag c hc).1 (k c (by omega) (by omega)),(h.pag c hc).2⟩,h.o1,h.o2,h.o3,h.o4,fun j hj=>nla (h.lt j hj) hg.size⟩,⟨hg.os,hg.tape,hg.output,hg.size,fun j hj=>hg.block j hj.2 (fun e=>by have:=hj.1;rw [e,h.o2] at this;omega)⟩⟩
theorem prF_new (A:Nat->Option Pr) (i:Nat) (hi:i<16) (P:Pr):prF (setA A i (some P))=put (prF A) (i:Nat) (some P.pb):=by
 funext j
 unfold put
 by_cases e:j=(i:Nat)
 . subst e;rw [if_pos rfl,prF_nat,if_pos hi,setA_same];rfl
 . rw [if_neg e]
   unfold prF
   by_cases c:0<=j/\j<16
   . rw [if_pos c,if_pos c,setA_other _ _ _ _ (by omega)]
   . rw [if_neg c,if_neg c]
theorem Mn.born (h:Mn O n W M Q T root I A B) {i:Nat} (hi:i<16) (hA:A i=none) (par k:Int) {U:World} (hm:MapF U M.pm (n+1) (put (prF A) (i:Nat) (some (W.heap.size+1+1)))) (hg:(((W.alloc (.map #[] 0)).alloc (.map #[] 0)).alloc (.cells (si1 par k 0 0 0 0 0 0 false 0 0 0 0 0 0 (.slice none 0 0) (.map (some W.heap.size)) (.map (some (W.heap.size+1)))) 88)).grownBy U (some M.pm)): ∃ O',Mn O' (n+1) U M Q T root I (setA A i (some ⟨W.heap.size+1+1,W.heap.size,W.heap.size+1,par,k,Tr.St.zero,none,0,[],fun _=>none,fun _ _=>none⟩)) B/\(∀ j,j<W.heap.size->O' j=O j)/\Ko O W U:=by
 have s1:(W.alloc (.map #[] 0)).heap.size=W.heap.size+1:=World.size_alloc _ _
 have s2:((W.alloc (.map #[] 0)).alloc (.map #[] 0)).heap.size=W.heap.size+1+1:=ku
 have b1:bc (W.alloc (.map #[] 0)) (((W.alloc (.map #[] 0)).alloc (.map #[] 0)).alloc (.cells (si1 par k 0 0 0 0 0 0 false 0 0 0 0 0 0 (.slice none 0 0) (.map (some W.heap.size)) (.map (some (W.heap.size+1)))) 88)):=below_then (Go.Joins.below_alloc1 (W.alloc (.map #[] 0)) _) (Go.Joins.below_alloc1 ((W.alloc (.map #[] 0)).alloc (.map #[] 0)) _)
 have b2:bc ((W.alloc (.map #[] 0)).alloc (.map #[] 0)) (((W.alloc (.map #[] 0)).alloc (.map #[] 0)).alloc (.cells (si1 par k 0 0 0 0 0 0 false 0 0 0 0 0 0 (.slice none 0 0) (.map (some W.heap.size)) (.map (some (W.heap.size+1)))) 88)):=baa
 have ba:bc W (((W.alloc (.map #[] 0)).alloc (.map #[] 0)).alloc (.cells (si1 par k 0 0 0 0 0 0 false 0 0 0 0 0 0 (.slice none 0 0) (.map (some W.heap.size)) (.map (some (W.heap.size+1)))) 88)):=below_then baa b1
 have sz3:(((W.alloc (.map #[] 0)).alloc (.map #[] 0)).alloc (.cells (si1 par k 0 0 0 0 0 0 false 0 0 0 0 0 0 (.slice none 0 0) (.map (some W.heap.size)) (.map (some (W.heap.size+1)))) 88)).heap.size=W.heap.size+1+1+1:=by rw [World.size_alloc,s2]
 have ml:MapL (((W.alloc (.map #[] 0)).alloc (.map #[] 0)).alloc (.cells (si1 par k 0 0 0 0 0 0 false 0 0 0 0 0 0 (.slice none 0 0) (.map (some W.heap.size)) (.map (some (W.heap.size+1)))) 88)) W.heap.size 0 (fun _=>none):=(MapL.made W).block (b1.block _ (by rw [s1];omega))
 have mw:MapW (((W.alloc (.map #[] 0)).alloc (.map #[] 0)).alloc (.cells (si1 par k 0 0 0 0 0 0 false 0 0 0 0 0 0 (.slice none 0 0) (.map (some W.heap.size)) (.map (some (W.heap.size+1)))) 88)) (W.heap.size+1) 0 (fun _ _=>none):=by
  have r:=(MapW.made (W.alloc (.map #[] 0))).block (b2.block _ (by rw [s2,s1];omega))
  rw [s1] at r;exact r
 have bp:Blk (((W.alloc (.map #[] 0)).alloc (.map #[] 0)).alloc (.cells (si1 par k 0 0 0 0 0 0 false 0 0 0 0 0 0 (.slice none 0 0) (.map (some W.heap.size)) (.map (some (W.heap.size+1)))) 88)) (W.heap.size+1+1) (se1 par k 0 0 0 0 0 0 false 0 0 0 0 0 0 (.slice none 0 0) (.map (some W.heap.size)) (.map (some (W.heap.size+1)))) 88:=kx1
 have o4:=h.o4
 have l4:=h.lt M.pm (by omega)
 generalize (((W.alloc (.map #[] 0)).alloc (.map #[] 0)).alloc (.cells (si1 par k 0 0 0 0 0 0 false 0 0 0 0 0 0 (.slice none 0 0) (.map (some W.heap.size)) (.map (some (W.heap.size+1)))) 88))=X at hg b1 b2 ba sz3 ml mw bp
 have kU: ∀ j,j<X.heap.size->j≠M.pm->U.heap[j]? =X.heap[j]? :=fun j hj hne=>hg.block j hj (fun e=>hne (sia e))
 have kW: ∀ j,j<W.heap.size->j≠M.pm->U.heap[j]? =W.heap[j]? :=fun j hj hne=>(kU j (by omega) hne).trans (ba.block j hj)
 have hs:W.heap.size<=U.heap.size:=Nat.le_trans ba.size hg.size
 have hz:=hg.size
 obtain ⟨O',eo⟩: ∃ O':Nat->Nat,O'=fun j=>if j=W.heap.size+1+1 then 16+8*i else if j=W.heap.size then 16+8*i+1 else if j=W.heap.size+1 then 16+8*i+2 else O j:=⟨_,rfl⟩
 have e0:O' (W.heap.size+1+1)=16+8*i:=by rw [eo];exact if_pos rfl
 have e1:O' W.heap.size=16+8*i+1:=by rw [eo];show (if _ then _ else _)=_;rw [if_neg (by omega),if_pos rfl]
 have e2:O' (W.heap.size+1)=16+8*i+2:=by rw [eo];show (if _ then _ else _)=_;rw [if_neg (by omega),if_neg (by omega),if_pos rfl]
 have el: ∀ j,j<W.heap.size->O' j=O j:=fun j hj=>by rw [eo];show (if _ then _ else _)=_;rw [if_neg (by omega),if_neg (by omega),if_neg (by omega)]
 have en: ∀ j,O j≠0->O' j=O j:=fun j hj=>el j (h.lt j hj)
 have eh: ∀ j,O' j≠0->j<W.heap.size+1+1+1:=fun j hj=>by
  by_cases c:j<W.heap.size+1+1+1
  . exact c
  . exfalso
    have:O' j=O j:=by rw [eo];show (if _ then _ else _)=_;rw [if_neg (by omega),if_neg (by omega),if_neg (by omega)]
    rw [this] at hj;have:=h.lt j hj;omega
 have e9: ∀ c,O' c=9->O c=9:=fun c hc=>by
  by_cases q:c<W.heap.size
  . rw [<- el c q];exact hc
  . have:=eh c (by omega)
    rcases (by omega:c=W.heap.size\/c=W.heap.size+1\/c=W.heap.size+1+1) with q | q | q
    . rw [q,e1] at hc;omega
    . rw [q,e2] at hc;omega
    . rw [q,e0] at hc;omega
 clear eo
 have k0: ∀ j,O j≠0->O j≠4->U.heap[j]? =W.heap[j]? :=fun j h0 h1=>kW j (h.lt j h0) (fun e=>h1 (by rw [e];exact o4))
 refine ⟨O',⟨h.mod.block hs (k0 _ kn1 kn1),h.que.kept fun _=>k0 _ kp1 kp1,tree_block h.tre hs (k0 _ (by rw [h.o3];omega) (by rw [h.o3];omega)),h.goo,tab_block h.gra hs (k0 _ kn1 kn1),?_,fun j R hj e=> ?_,fun c hc=>⟨page_block (h.pag c (e9 c hc)).1 (k0 c (by have:=e9 c hc;omega) (by have:=e9 c hc;omega)),(h.pag c (e9 c hc)).2⟩,?_,?_,?_,?_,fun j hj=>by have:=eh j hj;omega⟩,el,⟨hg.os.trans ba.os,hg.tape.trans ba.tape,hg.output.trans ba.output,hs,fun j hj=>kW j hj.2 (fun e=>by have:=hj.1;rw [e,o4] at this;omega)⟩⟩
 . rw [prF_new A i hi];exact hm
 . by_cases c:j=i
   . subst c
     rw [setA_same] at e
     cases e
     exact ⟨(kU _ (by show W.heap.size+1+1<_;omega) (by show W.heap.size+1+1≠_;omega)).trans bp,fun a ha=>absurd ha (Nat.not_lt_zero _),Nat.le_refl _,Nat.zero_le _,(ml.mono (Nat.zero_le _)).block (kU _ (by show W.heap.size<_;omega) (by show W.heap.size≠_;omega)),(mw.mono (Nat.zero_le _)).block (kU _ (by show W.heap.size+1<_;omega) (by show W.heap.size+1≠_;omega)),(fun a b=>⟨by show (0:Int)<=0;omega,by show (0:Int)<=((n+1:Nat):Int);omega⟩),(fun p c e=>by cases e),e0,e1,e2,fun g eg hl=>absurd hl (Nat.lt_irrefl 0)⟩
   . rw [setA_other _ _ _ _ c] at e
     exact (h.prs j R hj e).keep (by omega) hs en (fun b h1 h2=>k0 b (by omega) (by omega))
 . rw [en _ kn1];exact h.o1
 . rw [en _ kp1];exact h.o2
 . rw [en _ (by rw [h.o3];omega)];exact h.o3
 . rw [en _ (by rw [h.o4];omega)];exact h.o4
theorem Mn.begin_big (h:Mn O n W M Q T root I A B) (par bx q:Int) (p:Nat) (hp:lowA A 0 16=p) (p16:p=16) :
 Calls Tryz.prog 15 #[pp M.mb,.int .i64 par,.int .i64 bx,.int .i64 q] W (re (.tuple #[.int .i64 0,.int .i64 4]) W):=by
 have HM:Hid (Mn O n W M Q T root I A B):=h
 have UC:Hid (Calls Tryz.prog 25 #[pp M.mb] W (re (.int .i64 (p:Nat)) W)):=by
  have q:=unused_any h.mod h.prm
  rw [hp] at q;exact q
 have d0:((p:Int)==16)=true:=kg
 clear h hp
 go_enter Tryz.func15,Tryz.ntmps15
 go_wp2_with fail
 refine Calls.mono UC.out ?_
 rintro e w1 ⟨rfl,hb1⟩
 have G1:Hid (bc W w1):=hb1
 clear hb1 UC
 go_wp2_with fail
 go_returns
 exact ⟨rfl,G1.out⟩
theorem Mn.begin_child (h:Mn O n W M Q T root I A B) (par bx q:Int) (p:Nat) (hp:lowA A 0 16=p) (p16:p<16) (E:Int) (E0:E≠0) (hc:Qo.childN T bx q=E) :
 Calls Tryz.prog 15 #[pp M.mb,.int .i64 par,.int .i64 bx,.int .i64 q] W fun e w'=>e=.returned (.tuple #[.int .i64 0,.int .i64 E])/\Tx O W (fun O' V=>Mn O' n V M Q T root I A B) w':=by
 have HM:Hid (Mn O n W M Q T root I A B):=h
 have UC:Hid (Calls Tryz.prog 25 #[pp M.mb] W (re (.int .i64 (p:Nat)) W)):=by
  have q:=unused_any h.mod h.prm
  rw [hp] at q;exact q
 have CC:Hid (∀ w,Mn O n w M Q T root I A B->Calls Tryz.prog 26 #[pp M.tb,.int .i64 bx,.int .i64 q] w fun e w'=>e=.returned (.tuple #[.int .i64 0,.int .i64 E])/\Qo.IsTree w' M.tb T/\w.grownBy w' (some M.tb)):=fun w hw=>by
  have r:=Qo.child_any M.tb T hw.goo.okT bx q w hw.tre
  rw [hc] at r
  rw [show Qo.childI T bx q=0 from if_neg (by rw [hc];exact E0),show Qo.childT T bx q=T from if_neg (by rw [hc];exact E0)] at r
  exact r
 have d1:decide (E=0)=false:=by simp [E0]
 have d2:(E==0)=false:=by simp [E0]
 have d3:(E != 0)=true:=by simp [E0]
 have d0:((p:Int)==16)=false:=kg
 clear h hp hc E0
 go_enter Tryz.func15,Tryz.ntmps15
 go_wp2_with fail
 refine Calls.mono UC.out ?_
 rintro e w1 ⟨rfl,hb1⟩
 have G1:Hid (bc W w1):=hb1
 clear hb1 UC
 have M1:Hid (Mn O n w1 M Q T root I A B):=HM.out.below G1.out
 have K1:Hid (Ko O W w1/\W.heap.size<=w1.heap.size):=⟨Ko.of_below G1.out,G1.out.size⟩
 have m1:w1.cell? ⟨M.mb,1,none⟩=some (pp M.tb):=M1.out.mod.2.1
 clear G1
 go_wp2_with fail
 refine Calls.mono (CC.out _ M1.out) ?_
 rintro e u1 ⟨rfl,ht1,hg1⟩
 have MT:=M1.out.tree ht1 (M1.out.goo) hg1
 have M2:Hid (Mn O n u1 M Q T root I A B):=MT.1
 have K2:Hid (Ko O W u1/\W.heap.size<=u1.heap.size):=⟨K1.out.1.trans (MT.2.sub fun j hj=>⟨hj.1,nla hj.2 K1.out.2⟩),Nat.le_trans K1.out.2 hg1.size⟩
 clear MT ht1 hg1 M1 K1 m1 CC
 go_wp2_with fail
 go_returns
 exact ⟨rfl,O,M2.out,fun _ _=>rfl,M2.out.lt,K2.out.1⟩
theorem Mn.begin_charge (h:Mn O n W M Q T root I A B) (par bx q:Int) (p:Nat) (hp:lowA A 0 16=p) (p16:p<16) (hc:Qo.childN T bx q=0) (oi:Int) (hoi:Qo.childI T bx q=oi) (T1:Nat->Qo.Nd) (hT1:Qo.childT T bx q=T1) (E:Int) (E0:E≠0) (hm:Qo.mayN T1 oi 1=E) :
 Calls Tryz.prog 15 #[pp M.mb,.int .i64 par,.int .i64 bx,.int .i64 q] W fun e w'=>e=.returned (.tuple #[.int .i64 0,.int .i64 E])/\Tx O W (fun O' V=>Mn O' n V M Q (Qo.endT T1 oi) root I A B) w':=by
 have HM:Hid (Mn O n W M Q T root I A B):=h
 have UC:Hid (Calls Tryz.prog 25 #[pp M.mb] W (re (.int .i64 (p:Nat)) W)):=by
  have q:=unused_any h.mod h.prm
  rw [hp] at q;exact q
 have CC:Hid (∀ w,Mn O n w M Q T root I A B->Calls Tryz.prog 26 #[pp M.tb,.int .i64 bx,.int .i64 q] w fun e w'=>e=.returned (.tuple #[.int .i64 oi,.int .i64 0])/\Qo.IsTree w' M.tb T1/\w.grownBy w' (some M.tb)):=fun w hw=>by
  have r:=Qo.child_any M.tb T hw.goo.okT bx q w hw.tre
  rw [hc,hoi,hT1] at r
  skip
  exact r
 have GT1:Hid (Qo.Good T1 root):=by show Qo.Good _ _;rw [<- hT1];exact h.goo.child bx q
 have HC:Hid (∀ w,Mn O n w M Q T1 root I A B->Calls Tryz.prog 14 #[pp M.tb,.int .i64 oi,.int .i64 1] w fun e w'=>e=.returned (.int .i64 E)/\Qo.IsTree w' M.tb T1/\w.grownBy w' (some M.tb)):=fun w hw=>by
  have r:=Qo.charge_any M.tb T1 hw.goo.okT oi 1 w hw.tre
  rw [hm,show Qo.chargeT T1 oi 1=T1 from if_neg (by rw [hm];exact E0)] at r
  exact r
 have EC:Hid (∀ w,Mn O n w M Q T1 root I A B->Calls Tryz.prog 27 #[pp M.tb,.int .i64 oi] w fun e w'=>e=.returned (.int .i64 (Qo.endN T1 oi))/\Qo.IsTree w' M.tb (Qo.endT T1 oi)/\w.grownBy w' (some M.tb)):=fun w hw=>Qo.end_any M.tb T1 hw.goo.okT hw.goo.parT oi w hw.tre
 have d1:decide (E=0)=false:=by simp [E0]
 have d2:(E==0)=false:=by simp [E0]
 have d3:(E != 0)=true:=by simp [E0]
 have d0:((p:Int)==16)=false:=kg
 clear h hp hc hm hoi hT1 E0
 go_enter Tryz.func15,Tryz.ntmps15
 go_wp2_with fail
 refine Calls.mono UC.out ?_
 rintro e w1 ⟨rfl,hb1⟩
 have G1:Hid (bc W w1):=hb1
 clear hb1 UC
 have M1:Hid (Mn O n w1 M Q T root I A B):=HM.out.below G1.out
 have K1:Hid (Ko O W w1/\W.heap.size<=w1.heap.size):=⟨Ko.of_below G1.out,G1.out.size⟩
 have m1:w1.cell? ⟨M.mb,1,none⟩=some (pp M.tb):=M1.out.mod.2.1
 clear G1
 go_wp2_with fail
 refine Calls.mono (CC.out _ M1.out) ?_
 rintro e u1 ⟨rfl,ht1,hg1⟩
 have MT:=M1.out.tree ht1 (GT1.out) hg1
 have M2:Hid (Mn O n u1 M Q T1 root I A B):=MT.1
 have K2:Hid (Ko O W u1/\W.heap.size<=u1.heap.size):=⟨K1.out.1.trans (MT.2.sub fun j hj=>⟨hj.1,nla hj.2 K1.out.2⟩),Nat.le_trans K1.out.2 hg1.size⟩
 clear MT ht1 hg1 M1 K1 m1 CC
 have m1:u1.cell? ⟨M.mb,1,none⟩=some (pp M.tb):=M2.out.mod.2.1
 go_wp2_with fail
 refine Calls.mono (HC.out _ M2.out) ?_
 rintro e u2 ⟨rfl,ht2,hg2⟩
 have MT:=M2.out.tree ht2 (M2.out.goo) hg2
 have M3:Hid (Mn O n u2 M Q T1 root I A B):=MT.1
 have K3:Hid (Ko O W u2/\W.heap.size<=u2.heap.size):=⟨K2.out.1.trans (MT.2.sub fun j hj=>⟨hj.1,nla hj.2 K2.out.2⟩),Nat.le_trans K2.out.2 hg2.size⟩
 clear MT ht2 hg2 M2 K2 m1 HC
 have m1:u2.cell? ⟨M.mb,1,none⟩=some (pp M.tb):=M3.out.mod.2.1
 go_wp2_with fail
 refine Calls.mono (EC.out _ M3.out) ?_
 rintro e u3 ⟨rfl,ht3,hg3⟩
 have MT:=M3.out.tree ht3 (M3.out.goo.ends oi) hg3
 have M4:Hid (Mn O n u3 M Q (Qo.endT T1 oi) root I A B):=MT.1
 have K4:Hid (Ko O W u3/\W.heap.size<=u3.heap.size):=⟨K3.out.1.trans (MT.2.sub fun j hj=>⟨hj.1,nla hj.2 K3.out.2⟩),Nat.le_trans K3.out.2 hg3.size⟩
 clear MT ht3 hg3 M3 K3 m1 EC
 go_wp2_with fail
 go_returns
 exact ⟨rfl,O,M4.out,fun _ _=>rfl,M4.out.lt,K4.out.1⟩
theorem Mn.begin (h:Mn O n W M Q T root I A B) (par bx q:Int) (p:Nat) (hp:lowA A 0 16=p) (p16:p<16) (hc:Qo.childN T bx q=0) (oi:Int) (hoi:Qo.childI T bx q=oi) (T1:Nat->Qo.Nd) (hT1:Qo.childT T bx q=T1) (hm:Qo.mayN T1 oi 1=0) (gq:Ca.Good Q) (hA:A p=none) (hn:n<900000000000) :
 Calls Tryz.prog 15 #[pp M.mb,.int .i64 par,.int .i64 bx,.int .i64 q] W fun e w'=>e=.returned (.tuple #[.int .i64 (p:Nat),.int .i64 0])/\ ∃ pb lb wb,Tx O W (fun O' V=>Mn O' (n+1) V M (Ca.addS Q (p:Nat)) (Qo.chargeT T1 oi 1) root I (setA A p (some ⟨pb,lb,wb,par,oi,Tr.St.zero,none,0,[],fun _=>none,fun _ _=>none⟩)) B) w':=by
 have HM:Hid (Mn O n W M Q T root I A B):=h
 have UC:Hid (Calls Tryz.prog 25 #[pp M.mb] W (re (.int .i64 (p:Nat)) W)):=by
  have q:=unused_any h.mod h.prm
  rw [hp] at q;exact q
 have CC:Hid (∀ w,Mn O n w M Q T root I A B->Calls Tryz.prog 26 #[pp M.tb,.int .i64 bx,.int .i64 q] w fun e w'=>e=.returned (.tuple #[.int .i64 oi,.int .i64 0])/\Qo.IsTree w' M.tb T1/\w.grownBy w' (some M.tb)):=fun w hw=>by
  have r:=Qo.child_any M.tb T hw.goo.okT bx q w hw.tre
  rw [hc,hoi,hT1] at r
  skip
  exact r
 have GT1:Hid (Qo.Good T1 root):=by show Qo.Good _ _;rw [<- hT1];exact h.goo.child bx q
 have HC:Hid (∀ w,Mn O n w M Q T1 root I A B->Calls Tryz.prog 14 #[pp M.tb,.int .i64 oi,.int .i64 1] w fun e w'=>e=.returned (.int .i64 0)/\Qo.IsTree w' M.tb (Qo.chargeT T1 oi 1)/\w.grownBy w' (some M.tb)):=fun w hw=>by
  have r:=Qo.charge_any M.tb T1 hw.goo.okT oi 1 w hw.tre
  rw [hm] at r
  exact r
 have AC:Hid (∀ w,Ca.IsQ w M.tq Q->Calls Tryz.prog 28 #[pp M.tq,.int .i64 (p:Nat)] w fun e w'=>e=.returned (.int .i64 (Ca.addE Q (p:Nat)))/\Ca.IsQ w' M.tq (Ca.addS Q (p:Nat))/\Ca.Kb M.tq w w'):=fun w hw=>Ca.add_any M.tq Q (p:Nat) gq w hw
 have HPA:Hid (p<16/\A p=none/\n<900000000000):=⟨p16,hA,hn⟩
 have d0:((p:Int)==16)=false:=kg
 clear h hp hc hm hoi hT1 gq hA hn
 go_enter Tryz.func15,Tryz.ntmps15
 go_wp2_with fail
 refine Calls.mono UC.out ?_
 rintro e w1 ⟨rfl,hb1⟩
 have G1:Hid (bc W w1):=hb1
 clear hb1 UC
 have M1:Hid (Mn O n w1 M Q T root I A B):=HM.out.below G1.out
 have K1:Hid (Ko O W w1/\W.heap.size<=w1.heap.size):=⟨Ko.of_below G1.out,G1.out.size⟩
 have m1:w1.cell? ⟨M.mb,1,none⟩=some (pp M.tb):=M1.out.mod.2.1
 clear G1
 go_wp2_with fail
 refine Calls.mono (CC.out _ M1.out) ?_
 rintro e u1 ⟨rfl,ht1,hg1⟩
 have MT:=M1.out.tree ht1 (GT1.out) hg1
 have M2:Hid (Mn O n u1 M Q T1 root I A B):=MT.1
 have K2:Hid (Ko O W u1/\W.heap.size<=u1.heap.size):=⟨K1.out.1.trans (MT.2.sub fun j hj=>⟨hj.1,nla hj.2 K1.out.2⟩),Nat.le_trans K1.out.2 hg1.size⟩
 clear MT ht1 hg1 M1 K1 m1 CC
 have m1:u1.cell? ⟨M.mb,1,none⟩=some (pp M.tb):=M2.out.mod.2.1
 go_wp2_with fail
 refine Calls.mono (HC.out _ M2.out) ?_
 rintro e u2 ⟨rfl,ht2,hg2⟩
 have MT:=M2.out.tree ht2 (M2.out.goo.charge oi 1) hg2
 have M3:Hid (Mn O n u2 M Q (Qo.chargeT T1 oi 1) root I A B):=MT.1
 have K3:Hid (Ko O W u2/\W.heap.size<=u2.heap.size):=⟨K2.out.1.trans (MT.2.sub fun j hj=>⟨hj.1,nla hj.2 K2.out.2⟩),Nat.le_trans K2.out.2 hg2.size⟩
 clear MT ht2 hg2 M2 K2 m1 HC
 have s1:(u2.alloc (.map #[] 0)).heap.size=u2.heap.size+1:=World.size_alloc _ _
 have s2:((u2.alloc (.map #[] 0)).alloc (.map #[] 0)).heap.size=u2.heap.size+1+1:=ku
 have ba:bc u2 (((u2.alloc (.map #[] 0)).alloc (.map #[] 0)).alloc (.cells (si1 par oi 0 0 0 0 0 0 false 0 0 0 0 0 0 (.slice none 0 0) (.map (some u2.heap.size)) (.map (some (u2.heap.size+1)))) 88)):=below_then (below_then baa (Go.Joins.below_alloc1 (u2.alloc (.map #[] 0)) _)) (Go.Joins.below_alloc1 ((u2.alloc (.map #[] 0)).alloc (.map #[] 0)) _)
 obtain ⟨u4,upd,pm4,hg4⟩:=(M3.out.prm.block (ba.block _ M3.out.prm.lt)).set (k:=(p:Nat)) (by have:=HPA.out;unfold maxLen;omega) (wf64 (by omega) (by have:=HPA.out;omega)) (u2.heap.size+1+1)
 have upd:(Instr.mapUpdate 53 (.map (some M.pm)) (.int .i64 (p:Nat)) (.pointer (some ⟨u2.heap.size+1+1,0,none⟩))).run Tryz.prog (((u2.alloc (.map #[] 0)).alloc (.map #[] 0)).alloc (.cells (si1 par oi 0 0 0 0 0 0 false 0 0 0 0 0 0 (.slice none 0 0) (.map (some u2.heap.size)) (.map (some (u2.heap.size+1)))) 88))=.ok () u4:=upd
 have m4:(((u2.alloc (.map #[] 0)).alloc (.map #[] 0)).alloc (.cells (si1 par oi 0 0 0 0 0 0 false 0 0 0 0 0 0 (.slice none 0 0) (.map (some u2.heap.size)) (.map (some (u2.heap.size+1)))) 88)).cell? ⟨M.mb,1538,none⟩=some (.map (some M.pm)):=(M3.out.mod.below ba).2.2.1
 have m2:u2.cell? ⟨M.mb,1538,none⟩=some (.map (some M.pm)):=M3.out.mod.2.2.1
 obtain ⟨O4,mm4,eo4,ko4⟩:=M3.out.born HPA.out.1 HPA.out.2.1 par oi pm4 hg4
 have M4:Hid (Mn O4 (n+1) u4 M Q (Qo.chargeT T1 oi 1) root I (setA A p (some ⟨u2.heap.size+1+1,u2.heap.size,u2.heap.size+1,par,oi,Tr.St.zero,none,0,[],fun _=>none,fun _ _=>none⟩)) B/\ ∀ j,j<W.heap.size->O4 j=O j):=⟨mm4,fun j hj=>eo4 j (nla hj K3.out.2)⟩
 have K4:Hid (Ko O W u4/\W.heap.size<=u4.heap.size):=⟨K3.out.1.trans (ko4.sub fun j hj=>⟨hj.1,nla hj.2 K3.out.2⟩),Nat.le_trans K3.out.2 (Nat.le_trans ba.size hg4.size)⟩
 have mk1: ∀ w:World,(Instr.makeMap 85 none).run Tryz.prog w=.ok (.map (some w.heap.size)) (w.alloc (.map #[] 0)):=fun w=>by kernel_rfl
 have mk2: ∀ w:World,(Instr.makeMap 86 none).run Tryz.prog w=.ok (.map (some w.heap.size)) (w.alloc (.map #[] 0)):=fun w=>by kernel_rfl
 clear s1 s2 ba pm4 hg4 mm4 eo4 ko4 M3 K3
 go_upto_region 12 with fail
 clear upd m4 m2
 generalize u2.heap.size=lb at M4
 have m0:u4.cell? ⟨M.mb,0,none⟩=some (pp M.tq):=M4.out.1.mod.1
 go_wp2_with fail
 refine Calls.mono (AC.out _ M4.out.1.que) ?_
 rintro e u5 ⟨rfl,hq5,hk5⟩
 have MT:=M4.out.1.queue hq5 hk5
 have HE:Hid (∃ pb lb wb,Tx O W (fun O' V=>Mn O' (n+1) V M (Ca.addS Q (p:Nat)) (Qo.chargeT T1 oi 1) root I (setA A p (some ⟨pb,lb,wb,par,oi,Tr.St.zero,none,0,[],fun _=>none,fun _ _=>none⟩)) B) u5):=⟨_,_,_,O4,MT.1,M4.out.2,MT.1.lt,K4.out.1.trans (MT.2.sub fun j hj=>⟨(M4.out.2 j hj.2).trans hj.1,nla hj.2 K4.out.2⟩)⟩
 clear MT hq5 hk5 M4 K4 AC m0
 go_wp2_with fail
 go_returns
 obtain ⟨pb,lb,wb,hx⟩:=HE.out
 exact ⟨rfl,pb,lb,wb,hx⟩
theorem Mn.accept_no (h:Mn O n W M Q T root I A B) (i:Nat) (k1 k2:Int) (k3 k4 k5:Bool) (ad sz x k6 k7 k8 k9:Int) (E:Int) (E0:E≠0) (ha:Sh.accE I k6 (i:Nat) k1=E) :
 Calls Tryz.prog 63 #[pp M.mb,.int .i64 (i:Nat),.agg (sq 7 k1 k2 k3 k4 k5 ad sz x k6 k7 k8 k9)] W fun e w'=>e=.returned (.int .i64 E)/\Tx O W (fun O' V=>Mn O' n V M Q T root I A B) w':=by
 have HM:Hid (Mn O n W M Q T root I A B):=h
 have OB:Hid (∀ b,W.heap.size<=b->O b=0):=fun b hb=>bca fun hh=>by have:=h.lt b hh;omega
 have MB:Hid (M.mb<W.heap.size):=h.lt _ kn1
 have AC:Hid (∀ w,bc W w->Calls Tryz.prog 83 #[.pointer (some ⟨M.mb,2,none⟩),.int .i64 k6,.int .i64 (i:Nat),.int .i64 k1] w fun e w'=>e=.returned (.int .i64 E)/\Sh.IsTab (ME M) w' M.mb I/\w.grownBy w' (some M.mb)):=fun w hb=>by
  have q:=Sh.accept_any M.mb I k6 (i:Nat) k1 w (HM.out.below hb).gra
  rw [ha] at q
  rw [show Sh.accT I k6 (i:Nat) k1=I from if_neg (by rw [ha];exact E0)] at q
  exact q
 have d1:decide (E=0)=false:=by simp [E0]
 have d2:(E==0)=false:=by simp [E0]
 have d3:(E != 0)=true:=by simp [E0]
 have G0:Hid (bc W (W.alloc (.cells (sq 7 k1 k2 k3 k4 k5 ad sz x k6 k7 k8 k9) 70))/\Blk (W.alloc (.cells (sq 7 k1 k2 k3 k4 k5 ad sz x k6 k7 k8 k9) 70)) W.heap.size (su 7 k1 k2 k3 k4 k5 ad sz x k6 k7 k8 k9) 70):=⟨baa,Blk.made _ _ _⟩
 clear h ha E0
 go_enter Tryz.func63,Tryz.ntmps63
 go_upto_region 1 with fail
 generalize (W.alloc (.cells (sq 7 k1 k2 k3 k4 k5 ad sz x k6 k7 k8 k9) 70))=W1 at G0 |-
 obtain ⟨b1,hb1⟩: ∃ b1,b1=W.heap.size:=⟨_,rfl⟩
 have G1:Hid (bc W W1/\Blk W1 b1 (su 7 k1 k2 k3 k4 k5 ad sz x k6 k7 k8 k9) 70):=kt1
 have NB:Hid (W.heap.size<=b1):=ks
 have OB1:Hid (O b1=0):=OB.out b1 NB.out
 rw [<- hb1]
 clear hb1 G0
 have x1:W1.cell? ⟨b1,1,none⟩=some (.int .i64 k1):=G1.out.2.cell 1
 go_upto_region 2 with fail
 clear x1
 refine hda (fun cw=>Blk cw b1 (su 7 k1 k2 k3 k4 k5 ad sz x k6 k7 k8 k9) 70) G1.out.2 fun hHeld=> ?_
 have KU:Hid (bc W W1.drew):=below_drew G1.out.1
 clear G1
 generalize W1.drew=U at hHeld KU |-
 refine tma 0 15 rfl ?_
 try simp only [Act.put,zaa,zba,zca]
 refine tma 1 16 rfl ?_
 try simp only [Act.put,zaa,zba,zca]
 refine tma 2 17 rfl ?_
 try simp only [Act.put,zaa,zba,zca]
 refine tma 3 18 rfl ?_
 try simp only [Act.put,zaa,zba,zca]
 refine tla 4 19 (.int .i64 k6) rfl ?_ ?_
 . exact k21
 try simp only [Act.put,zaa,zba,zca]
 refine tma 5 20 rfl ?_
 try simp only [Act.put,zaa,zba,zca]
 refine tma 6 21 rfl ?_
 try simp only [Act.put,zaa,zba,zca]
 refine rda 7 ⟨some 22,_,_,_,_,none⟩ rfl fun K hK=> ?_
 go_simp
 go_wp2_with (go_at_call 83;refine Calls.mono (AC.out _ KU.out) ?_;rintro e u2 ⟨rfl,ht2,hg2⟩)
 have S2:Hid (Blk u2 b1 (su 7 k1 k2 k3 k4 k5 ad sz x k6 k7 k8 k9) 70):=(hg2.block b1 hHeld.lt (fun e=>by have:=sia e;have:=MB.out;have:=NB.out;omega)).trans hHeld
 have C2:Hid (Blk u2 b1 (su 7 k1 k2 k3 k4 k5 ad sz x k6 k7 k8 k9) 70):=S2.out
 have MG:=(HM.out.below KU.out).grants ht2 hg2
 have M2:Hid (Mn O n u2 M Q T root I A B):=MG.1
 have K2:Hid (Ko O W u2/\W.heap.size<=u2.heap.size):=⟨(Ko.of_below KU.out).trans (MG.2.sub fun j hj=>⟨hj.1,nla hj.2 KU.out.size⟩),Nat.le_trans KU.out.size hg2.size⟩
 clear MG
 refine hK.out _ _ S2.out ?_
 clear hK K hHeld ht2 hg2 S2 KU
 intro hHeld
 try simp only [Act.put,zaa,zba,zca]
 refine tma 8 8 rfl ?_
 try simp only [Act.put,zaa,zba,zca]
 clear hHeld
 refine wpAnyH_done kc ?_ _
 refine NoPanic.normal ?_
 go_wp2_with fail
 go_returns
 exact ⟨rfl,O,M2.out,fun _ _=>rfl,M2.out.lt,K2.out.1⟩
theorem Mn.accept_lend (h:Mn O n W M Q T root I A B) (i:Nat) (k1 k2:Int) (k3 k4 k5:Bool) (ad sz x k6 k7 k8 k9:Int) (ha:Sh.accE I k6 (i:Nat) k1=0) (I1:Nat->Sh.Gr) (hI1:Sh.accT I k6 (i:Nat) k1=I1) (gf gp gd ga:Int) (gw gt gb:Bool) (hg:Sh.getG I1 k6=⟨gf,gp,gd,gw,gt,ga⟩) (hgb:Sh.Gr.is ⟨gf,gp,gd,gw,gt,ga⟩=gb) (E:Int) (E0:E≠0) (n':Nat) (T':Nat->Qo.Nd) (A':Nat->Option Pr) (HL: ∀ (w:World),Mn O n w M Q T root I1 A B->Calls Tryz.prog 85 #[pp M.mb,.agg (sb1 gf gp gd gw gt ga)] w fun e w'=>e=.returned (.int .i64 E)/\Tx O w (fun O' V=>Mn O' n' V M Q T' root I1 A' B) w') :
 Calls Tryz.prog 63 #[pp M.mb,.int .i64 (i:Nat),.agg (sq 7 k1 k2 k3 k4 k5 ad sz x k6 k7 k8 k9)] W fun e w'=>e=.returned (.int .i64 E)/\Tx O W (fun O' V=>Mn O' n' V M Q T' root (Sh.leaT I1 k6 (i:Nat)) A' B) w':=by
 have HM:Hid (Mn O n W M Q T root I A B):=h
 have OB:Hid (∀ b,W.heap.size<=b->O b=0):=fun b hb=>bca fun hh=>by have:=h.lt b hh;omega
 have MB:Hid (M.mb<W.heap.size):=h.lt _ kn1
 have AC:Hid (∀ w,bc W w->Calls Tryz.prog 83 #[.pointer (some ⟨M.mb,2,none⟩),.int .i64 k6,.int .i64 (i:Nat),.int .i64 k1] w fun e w'=>e=.returned (.int .i64 0)/\Sh.IsTab (ME M) w' M.mb I1/\w.grownBy w' (some M.mb)):=fun w hb=>by
  have q:=Sh.accept_any M.mb I k6 (i:Nat) k1 w (HM.out.below hb).gra
  rw [ha,hI1] at q
  skip
  exact q
 have GT:Hid (∀ w,Sh.IsTab (ME M) w M.mb I1->Calls Tryz.prog 84 #[.pointer (some ⟨M.mb,2,none⟩),.int .i64 k6] w (re (.tuple #[.agg (sb1 gf gp gd gw gt ga),.bool gb]) w)):=fun w hw=>by
  have q:=Sh.get_any M.mb I1 k6 w hw
  rw [hg] at q
  rw [hgb] at q;exact q
 have LC:Hid (∀ (w:World),Mn O n w M Q T root I1 A B->Calls Tryz.prog 85 #[pp M.mb,.agg (sb1 gf gp gd gw gt ga)] w fun e w'=>e=.returned (.int .i64 E)/\Tx O w (fun O' V=>Mn O' n' V M Q T' root I1 A' B) w'):=HL
 have VC:Hid (∀ w,Sh.IsTab (ME M) w M.mb I1-> ∃ G:Sh.Gr,Calls Tryz.prog 86 #[.pointer (some ⟨M.mb,2,none⟩),.int .i64 k6,.int .i64 (i:Nat)] w fun e w'=>e=.returned (.tuple #[G.val,.int .i64 (Sh.leaE I1 k6 (i:Nat))])/\Sh.IsTab (ME M) w' M.mb (Sh.leaT I1 k6 (i:Nat))/\w.grownBy w' (some M.mb)):=fun w hw=>⟨_,Sh.leave_any M.mb I1 k6 (i:Nat) w hw⟩
 have d1:decide (E=0)=false:=by simp [E0]
 have d2:(E==0)=false:=by simp [E0]
 have d3:(E != 0)=true:=by simp [E0]
 have G0:Hid (bc W (W.alloc (.cells (sq 7 k1 k2 k3 k4 k5 ad sz x k6 k7 k8 k9) 70))/\Blk (W.alloc (.cells (sq 7 k1 k2 k3 k4 k5 ad sz x k6 k7 k8 k9) 70)) W.heap.size (su 7 k1 k2 k3 k4 k5 ad sz x k6 k7 k8 k9) 70):=⟨baa,Blk.made _ _ _⟩
 clear h ha hI1 hg hgb HL E0
 go_enter Tryz.func63,Tryz.ntmps63
 go_upto_region 1 with fail
 generalize (W.alloc (.cells (sq 7 k1 k2 k3 k4 k5 ad sz x k6 k7 k8 k9) 70))=W1 at G0 |-
 obtain ⟨b1,hb1⟩: ∃ b1,b1=W.heap.size:=⟨_,rfl⟩
 have G1:Hid (bc W W1/\Blk W1 b1 (su 7 k1 k2 k3 k4 k5 ad sz x k6 k7 k8 k9) 70):=kt1
 have NB:Hid (W.heap.size<=b1):=ks
 have OB1:Hid (O b1=0):=OB.out b1 NB.out
 rw [<- hb1]
 clear hb1 G0
 have x1:W1.cell? ⟨b1,1,none⟩=some (.int .i64 k1):=G1.out.2.cell 1
 go_upto_region 2 with fail
 clear x1
 refine hda (fun cw=>Blk cw b1 (su 7 k1 k2 k3 k4 k5 ad sz x k6 k7 k8 k9) 70) G1.out.2 fun hHeld=> ?_
 have KU:Hid (bc W W1.drew):=below_drew G1.out.1
 clear G1
 generalize W1.drew=U at hHeld KU |-
 refine tma 0 15 rfl ?_
 try simp only [Act.put,zaa,zba,zca]
 refine tma 1 16 rfl ?_
 try simp only [Act.put,zaa,zba,zca]
 refine tma 2 17 rfl ?_
 try simp only [Act.put,zaa,zba,zca]
 refine tma 3 18 rfl ?_
 try simp only [Act.put,zaa,zba,zca]
 refine tla 4 19 (.int .i64 k6) rfl ?_ ?_
 . exact k21
 try simp only [Act.put,zaa,zba,zca]
 refine tma 5 20 rfl ?_
 try simp only [Act.put,zaa,zba,zca]
 refine tma 6 21 rfl ?_
 try simp only [Act.put,zaa,zba,zca]
 refine rda 7 ⟨some 22,_,_,_,_,none⟩ rfl fun K hK=> ?_
 go_simp
 go_wp2_with (go_at_call 83;refine Calls.mono (AC.out _ KU.out) ?_;rintro e u2 ⟨rfl,ht2,hg2⟩)
 have S2:Hid (Blk u2 b1 (su 7 k1 k2 k3 k4 k5 ad sz x k6 k7 k8 k9) 70):=(hg2.block b1 hHeld.lt (fun e=>by have:=sia e;have:=MB.out;have:=NB.out;omega)).trans hHeld
 have C2:Hid (Blk u2 b1 (su 7 k1 k2 k3 k4 k5 ad sz x k6 k7 k8 k9) 70):=S2.out
 have MG:=(HM.out.below KU.out).grants ht2 hg2
 have M2:Hid (Mn O n u2 M Q T root I1 A B):=MG.1
 have K2:Hid (Ko O W u2/\W.heap.size<=u2.heap.size):=⟨(Ko.of_below KU.out).trans (MG.2.sub fun j hj=>⟨hj.1,nla hj.2 KU.out.size⟩),Nat.le_trans KU.out.size hg2.size⟩
 clear MG
 refine hK.out _ _ S2.out ?_
 clear hK K hHeld ht2 hg2 S2 KU
 intro hHeld
 try simp only [Act.put,zaa,zba,zca]
 refine tma 8 8 rfl ?_
 try simp only [Act.put,zaa,zba,zca]
 clear hHeld
 refine wpAnyH_done kc ?_ _
 refine NoPanic.normal ?_
 go_upto_region 5 with fail
 go_cut [9] (fun v V=> ∃ q:Nat,v=.pointer (some ⟨q,0,none⟩)/\Hid (Blk V q (sa1 gf gp gd gw gt ga) 55/\u2.heap.size<=q/\bc u2 V))
 case first =>
  refine hda (fun cw=>bc u2 cw) (below_drew (Below.refl _ _)) fun hHeld=> ?_
  generalize u2.drew=X at hHeld |-
  refine tma 0 27 rfl ?_
  try simp only [Act.put,zaa,zba,zca]
  refine tma 1 28 rfl ?_
  try simp only [Act.put,zaa,zba,zca]
  refine tma 2 29 rfl ?_
  try simp only [Act.put,zaa,zba,zca]
  refine tma 3 30 rfl ?_
  try simp only [Act.put,zaa,zba,zca]
  refine tla 4 31 (.int .i64 k6) rfl ?_ ?_
  . intro w hSw;(try dsimp only at hSw);have r:w.cell? ⟨b1,9,none⟩=some (.int .i64 k6):=(C2.out.below hSw).cell 9;(try go_simp);(try simp [*])
  try simp only [Act.put,zaa,zba,zca]
  refine wpAnyH_ready (rs:=[5,9]) kc (by simp) ?_
  refine AllReadyH.cons (o:=⟨some 32,_,_,_,_,none⟩) rfl (fun K hK=> ?_) (AllReadyH.cons (o:=⟨some 9,_,_,_,_,none⟩) rfl (fun K hK=> ?_) AllReadyH.nil)
  . go_simp
    go_wp2_with (go_at_call 84;refine Calls.mono (GT.out _ (M2.out.gra.below hHeld)) ?_;rintro e x1 ⟨rfl,hb⟩)
    refine hK.out _ _ (below_then hHeld hb) ?_
    clear hK K hHeld
    intro hHeld
    try simp only [Act.put,zaa,zba,zca]
    refine tma 6 26 rfl ?_
    try simp only [Act.put,zaa,zba,zca]
    refine tma 7 33 rfl ?_
    try simp only [Act.put,zaa,zba,zca]
    refine tma 8 34 rfl ?_
    try simp only [Act.put,zaa,zba,zca]
    refine rda 9 ⟨some 9,_,_,_,_,none⟩ rfl fun K hK=> ?_
    have Zqb:Hid (Blk (x1.alloc (.cells sq1 55)) x1.heap.size sp1 55):=Blk.made _ _ _
    have Nqb:Hid (u2.heap.size<=x1.heap.size):=hHeld.size
    go_simp
    refine hK.out _ _ (below_new hHeld _) (fun hHeld2=> ?_)
    clear hK K hHeld
    generalize x1.alloc (.cells sq1 55)=x2 at hHeld2 Zqb  |-
    generalize x1.heap.size=qb at Nqb Zqb |-
    have hHeld:=hHeld2
    clear hHeld2
    try simp only [Act.put,zaa,zba,zca]
    refine rda 10 ⟨none,_,_,_,_,none⟩ rfl fun K hK=> ?_
    refine wanted_mp2 rfl ?_
    have th:x2.there qb 0 6:=Zqb.out.there
    refine wp_store_mid _ _ _ rfl qb 0 (sb1 gf gp gd gw gt ga) rfl rfl th kc kq1 ?_
    (try simp only [List.toList_toArray])
    have Fqb:Hid (Blk (x2.setCells qb 0 (sa1 gf gp gd gw gt ga)) qb (sa1 gf gp gd gw gt ga) 55):=Blk.put Zqb.out rfl
    have KS:Hid (bc u2 (x2.setCells qb 0 (sa1 gf gp gd gw gt ga))):=below_put hHeld Nqb.out _
    generalize x2.setCells qb 0 (sa1 gf gp gd gw gt ga)=x3 at Fqb KS |-
    clear th
    refine hK.out _ _ KS.out ?_
    clear hK K hHeld
    intro hHeld
    try simp only [Act.put,zaa,zba,zca]
    refine tma 11 10 rfl ?_
    try simp only [Act.put,zaa,zba,zca]
    have KE:Hid (bc u2 x3):=hHeld
    clear hHeld
    refine wpAnyH_done kc ?_ _
    refine NoPanic.normal ?_
    go_wp2_with fail
    go_meet
    exact ⟨qb,rfl,Fqb.out,Nqb.out,KE.out⟩
  . have Zqb:Hid (Blk (X.alloc (.cells sq1 55)) X.heap.size sp1 55):=Blk.made _ _ _
    have Nqb:Hid (u2.heap.size<=X.heap.size):=hHeld.size
    go_simp
    refine hK.out _ _ (below_new hHeld _) (fun hHeld2=> ?_)
    clear hK K hHeld
    generalize X.alloc (.cells sq1 55)=x1 at hHeld2 Zqb  |-
    generalize X.heap.size=qb at Nqb Zqb |-
    have hHeld:=hHeld2
    clear hHeld2
    try simp only [Act.put,zaa,zba,zca]
    refine rda 5 ⟨some 32,_,_,_,_,none⟩ rfl fun K hK=> ?_
    go_simp
    go_wp2_with (go_at_call 84;refine Calls.mono (GT.out _ (M2.out.gra.below hHeld)) ?_;rintro e x2 ⟨rfl,hb⟩)
    have Zqb:=Zqb.out.below hb
    have Zqb:Hid (Blk x2 qb sp1 55):=Zqb
    refine hK.out _ _ (below_then hHeld hb) ?_
    clear hK K hHeld
    intro hHeld
    try simp only [Act.put,zaa,zba,zca]
    refine tma 6 26 rfl ?_
    try simp only [Act.put,zaa,zba,zca]
    refine tma 7 33 rfl ?_
    try simp only [Act.put,zaa,zba,zca]
    refine tma 8 34 rfl ?_
    try simp only [Act.put,zaa,zba,zca]
    refine rda 10 ⟨none,_,_,_,_,none⟩ rfl fun K hK=> ?_
    refine wanted_mp2 rfl ?_
    have th:x2.there qb 0 6:=Zqb.out.there
    refine wp_store_mid _ _ _ rfl qb 0 (sb1 gf gp gd gw gt ga) rfl rfl th kc kq1 ?_
    (try simp only [List.toList_toArray])
    have Fqb:Hid (Blk (x2.setCells qb 0 (sa1 gf gp gd gw gt ga)) qb (sa1 gf gp gd gw gt ga) 55):=Blk.put Zqb.out rfl
    have KS:Hid (bc u2 (x2.setCells qb 0 (sa1 gf gp gd gw gt ga))):=below_put hHeld Nqb.out _
    generalize x2.setCells qb 0 (sa1 gf gp gd gw gt ga)=x3 at Fqb KS |-
    clear th
    refine hK.out _ _ KS.out ?_
    clear hK K hHeld
    intro hHeld
    try simp only [Act.put,zaa,zba,zca]
    refine tma 11 10 rfl ?_
    try simp only [Act.put,zaa,zba,zca]
    have KE:Hid (bc u2 x3):=hHeld
    clear hHeld
    refine wpAnyH_done kc ?_ _
    refine NoPanic.normal ?_
    go_wp2_with fail
    go_meet
    exact ⟨qb,rfl,Fqb.out,Nqb.out,KE.out⟩
 case rest =>
 obtain ⟨q,rfl,hq⟩:=hcut
 obtain ⟨w4,hw4⟩: ∃ w4,w4=wc:=⟨_,rfl⟩
 subst hw4
 have M4:Hid (Mn O n w4 M Q T root I1 A B):=M2.out.below hq.out.2.2
 have C4:Hid (Blk w4 b1 (su 7 k1 k2 k3 k4 k5 ad sz x k6 k7 k8 k9) 70):=C2.out.below hq.out.2.2
 have K4:Hid (Ko O W w4/\W.heap.size<=w4.heap.size):=⟨K2.out.1.trans (kept_of_below hq.out.2.2 fun j hj=>nla hj.2 K2.out.2),Nat.le_trans K2.out.2 hq.out.2.2.size⟩
 have Q4:Hid (Blk w4 q (sa1 gf gp gd gw gt ga) 55):=hq.out.1
 have z0:w4.cell? ⟨q,0,none⟩=some (.int .i64 gf):=Q4.out.cell 0
 have z1:w4.cell? ⟨q,1,none⟩=some (.int .i64 gp):=Q4.out.cell 1
 have z2:w4.cell? ⟨q,2,none⟩=some (.int .i64 gd):=Q4.out.cell 2
 have z3:w4.cell? ⟨q,3,none⟩=some (.bool gw):=Q4.out.cell 3
 have z4:w4.cell? ⟨q,4,none⟩=some (.bool gt):=Q4.out.cell 4
 have z5:w4.cell? ⟨q,5,none⟩=some (.int .i64 ga):=Q4.out.cell 5
 clear hq M2 C2 K2 GT AC
 go_wp2_with fail
 refine Calls.mono (LC.out _ M4.out) ?_
 rintro e w5 ⟨rfl,htx⟩
 have T5:Hid (∃ O',Mn O' n' w5 M Q T' root I1 A' B/\(∀ j,j<W.heap.size->O' j=O j)/\Ko O W w5/\W.heap.size<=w5.heap.size/\O' b1=0):=by
  obtain ⟨O',m,e1,e2,k⟩:=htx
  exact ⟨O',m,fun j hj=>e1 j (nla hj K4.out.2),K4.out.1.trans (k.sub fun j hj=>⟨hj.1,nla hj.2 K4.out.2⟩),Nat.le_trans K4.out.2 k.size,(e1 b1 C4.out.lt).trans OB1.out⟩
 have C5:Hid (Blk w5 b1 (su 7 k1 k2 k3 k4 k5 ad sz x k6 k7 k8 k9) 70):=htx.choose_spec.2.2.2.blk C4.out OB1.out
 clear htx M4 C4 K4 Q4 LC z0 z1 z2 z3 z4 z5
 obtain ⟨O5,m5,e5,k5,z5,o5⟩:=T5.out
 have M5:Hid (Mn O5 n' w5 M Q T' root I1 A' B/\(∀ j,j<W.heap.size->O5 j=O j)):=⟨m5,e5⟩
 have K5:Hid (Ko O W w5/\W.heap.size<=w5.heap.size):=⟨k5,z5⟩
 clear m5 e5 k5 z5 o5 T5
 go_upto_region 8 with fail
 refine hda (fun cw=>Blk cw b1 (su 7 k1 k2 k3 k4 k5 ad sz x k6 k7 k8 k9) 70) C5.out fun hHeld=> ?_
 have M5':Hid (Mn O5 n' w5.drew M Q T' root I1 A' B/\(∀ j,j<W.heap.size->O5 j=O j)):=⟨M5.out.1.below (below_drew (Below.refl _ _)),M5.out.2⟩
 have K5':Hid (Ko O W w5.drew/\W.heap.size<=w5.drew.heap.size):=⟨K5.out.1.trans (kept_of_below (below_drew (Below.refl _ _)) fun j hj=>nla hj.2 K5.out.2),K5.out.2⟩
 clear C5 M5 K5
 have M5:=M5'
 have K5:=K5'
 clear M5' K5'
 generalize w5.drew=U8 at hHeld M5 K5 |-
 refine tma 0 40 rfl ?_
 try simp only [Act.put,zaa,zba,zca]
 refine tma 1 41 rfl ?_
 try simp only [Act.put,zaa,zba,zca]
 refine tma 2 42 rfl ?_
 try simp only [Act.put,zaa,zba,zca]
 refine tma 3 43 rfl ?_
 try simp only [Act.put,zaa,zba,zca]
 refine tla 4 44 (.int .i64 k6) rfl ?_ ?_
 . exact k21
 try simp only [Act.put,zaa,zba,zca]
 refine tma 5 45 rfl ?_
 try simp only [Act.put,zaa,zba,zca]
 obtain ⟨GG,hGG⟩:=VC.out U8 M5.out.1.gra
 have VD:Hid _:=hGG
 clear hGG
 refine rda 6 ⟨some 46,_,_,_,_,none⟩ rfl fun K hK=> ?_
 go_simp
 go_wp2_with (go_at_call 86;refine Calls.mono (VD.out) ?_;rintro e u9 ⟨rfl,ht9,hg9⟩)
 have S2:Hid (Blk u9 b1 (su 7 k1 k2 k3 k4 k5 ad sz x k6 k7 k8 k9) 70):=(hg9.block b1 hHeld.lt (fun e=>by have:=sia e;have:=MB.out;have:=NB.out;omega)).trans hHeld
 have MG:=M5.out.1.grants ht9 hg9
 have HE:Hid (Tx O W (fun O' V=>Mn O' n' V M Q T' root (Sh.leaT I1 k6 (i:Nat)) A' B) u9):=⟨O5,MG.1,M5.out.2,MG.1.lt,K5.out.1.trans (MG.2.sub fun j hj=>⟨(M5.out.2 j hj.2).trans hj.1,nla hj.2 K5.out.2⟩)⟩
 clear MG
 refine hK.out _ _ S2.out ?_
 clear hK K hHeld ht9 hg9 S2
 intro hHeld
 try simp only [Act.put,zaa,zba,zca]
 clear hHeld
 refine wpAnyH_done kc ?_ _
 refine NoPanic.normal ?_
 go_wp2_with fail
 go_returns
 exact ⟨rfl,HE.out⟩
theorem Mn.accept (h:Mn O n W M Q T root I A B) (i:Nat) (k1 k2:Int) (k3 k4 k5:Bool) (ad sz x k6 k7 k8 k9:Int) (ha:Sh.accE I k6 (i:Nat) k1=0) (I1:Nat->Sh.Gr) (hI1:Sh.accT I k6 (i:Nat) k1=I1) (gf gp gd ga:Int) (gw gt gb:Bool) (hg:Sh.getG I1 k6=⟨gf,gp,gd,gw,gt,ga⟩) (hgb:Sh.Gr.is ⟨gf,gp,gd,gw,gt,ga⟩=gb) (Y:(Nat->Nat)->World->Prop) (HL: ∀ (w:World),Mn O n w M Q T root I1 A B->Calls Tryz.prog 85 #[pp M.mb,.agg (sb1 gf gp gd gw gt ga)] w fun e w'=>e=.returned (.int .i64 0)/\Tx O w Y w') :
 Calls Tryz.prog 63 #[pp M.mb,.int .i64 (i:Nat),.agg (sq 7 k1 k2 k3 k4 k5 ad sz x k6 k7 k8 k9)] W fun e w'=>e=.returned (.int .i64 0)/\Tx O W Y w':=by
 have HM:Hid (Mn O n W M Q T root I A B):=h
 have OB:Hid (∀ b,W.heap.size<=b->O b=0):=fun b hb=>bca fun hh=>by have:=h.lt b hh;omega
 have MB:Hid (M.mb<W.heap.size):=h.lt _ kn1
 have AC:Hid (∀ w,bc W w->Calls Tryz.prog 83 #[.pointer (some ⟨M.mb,2,none⟩),.int .i64 k6,.int .i64 (i:Nat),.int .i64 k1] w fun e w'=>e=.returned (.int .i64 0)/\Sh.IsTab (ME M) w' M.mb I1/\w.grownBy w' (some M.mb)):=fun w hb=>by
  have q:=Sh.accept_any M.mb I k6 (i:Nat) k1 w (HM.out.below hb).gra
  rw [ha,hI1] at q
  skip
  exact q
 have GT:Hid (∀ w,Sh.IsTab (ME M) w M.mb I1->Calls Tryz.prog 84 #[.pointer (some ⟨M.mb,2,none⟩),.int .i64 k6] w (re (.tuple #[.agg (sb1 gf gp gd gw gt ga),.bool gb]) w)):=fun w hw=>by
  have q:=Sh.get_any M.mb I1 k6 w hw
  rw [hg] at q
  rw [hgb] at q;exact q
 have LC:Hid (∀ (w:World),Mn O n w M Q T root I1 A B->Calls Tryz.prog 85 #[pp M.mb,.agg (sb1 gf gp gd gw gt ga)] w fun e w'=>e=.returned (.int .i64 0)/\Tx O w Y w'):=HL
 have G0:Hid (bc W (W.alloc (.cells (sq 7 k1 k2 k3 k4 k5 ad sz x k6 k7 k8 k9) 70))/\Blk (W.alloc (.cells (sq 7 k1 k2 k3 k4 k5 ad sz x k6 k7 k8 k9) 70)) W.heap.size (su 7 k1 k2 k3 k4 k5 ad sz x k6 k7 k8 k9) 70):=⟨baa,Blk.made _ _ _⟩
 clear h ha hI1 hg hgb HL
 go_enter Tryz.func63,Tryz.ntmps63
 go_upto_region 1 with fail
 generalize (W.alloc (.cells (sq 7 k1 k2 k3 k4 k5 ad sz x k6 k7 k8 k9) 70))=W1 at G0 |-
 obtain ⟨b1,hb1⟩: ∃ b1,b1=W.heap.size:=⟨_,rfl⟩
 have G1:Hid (bc W W1/\Blk W1 b1 (su 7 k1 k2 k3 k4 k5 ad sz x k6 k7 k8 k9) 70):=kt1
 have NB:Hid (W.heap.size<=b1):=ks
 have OB1:Hid (O b1=0):=OB.out b1 NB.out
 rw [<- hb1]
 clear hb1 G0
 have x1:W1.cell? ⟨b1,1,none⟩=some (.int .i64 k1):=G1.out.2.cell 1
 go_upto_region 2 with fail
 clear x1
 refine hda (fun cw=>Blk cw b1 (su 7 k1 k2 k3 k4 k5 ad sz x k6 k7 k8 k9) 70) G1.out.2 fun hHeld=> ?_
 have KU:Hid (bc W W1.drew):=below_drew G1.out.1
 clear G1
 generalize W1.drew=U at hHeld KU |-
 refine tma 0 15 rfl ?_
 try simp only [Act.put,zaa,zba,zca]
 refine tma 1 16 rfl ?_
 try simp only [Act.put,zaa,zba,zca]
 refine tma 2 17 rfl ?_
 try simp only [Act.put,zaa,zba,zca]
 refine tma 3 18 rfl ?_
 try simp only [Act.put,zaa,zba,zca]
 refine tla 4 19 (.int .i64 k6) rfl ?_ ?_
 . exact k21
 try simp only [Act.put,zaa,zba,zca]
 refine tma 5 20 rfl ?_
 try simp only [Act.put,zaa,zba,zca]
 refine tma 6 21 rfl ?_
 try simp only [Act.put,zaa,zba,zca]
 refine rda 7 ⟨some 22,_,_,_,_,none⟩ rfl fun K hK=> ?_
 go_simp
 go_wp2_with (go_at_call 83;refine Calls.mono (AC.out _ KU.out) ?_;rintro e u2 ⟨rfl,ht2,hg2⟩)
 have S2:Hid (Blk u2 b1 (su 7 k1 k2 k3 k4 k5 ad sz x k6 k7 k8 k9) 70):=(hg2.block b1 hHeld.lt (fun e=>by have:=sia e;have:=MB.out;have:=NB.out;omega)).trans hHeld
 have C2:Hid (Blk u2 b1 (su 7 k1 k2 k3 k4 k5 ad sz x k6 k7 k8 k9) 70):=S2.out
 have MG:=(HM.out.below KU.out).grants ht2 hg2
 have M2:Hid (Mn O n u2 M Q T root I1 A B):=MG.1
 have K2:Hid (Ko O W u2/\W.heap.size<=u2.heap.size):=⟨(Ko.of_below KU.out).trans (MG.2.sub fun j hj=>⟨hj.1,nla hj.2 KU.out.size⟩),Nat.le_trans KU.out.size hg2.size⟩
 clear MG
 refine hK.out _ _ S2.out ?_
 clear hK K hHeld ht2 hg2 S2 KU
 intro hHeld
 try simp only [Act.put,zaa,zba,zca]
 refine tma 8 8 rfl ?_
 try simp only [Act.put,zaa,zba,zca]
 clear hHeld
 refine wpAnyH_done kc ?_ _
 refine NoPanic.normal ?_
 go_upto_region 5 with fail
 go_cut [9] (fun v V=> ∃ q:Nat,v=.pointer (some ⟨q,0,none⟩)/\Hid (Blk V q (sa1 gf gp gd gw gt ga) 55/\u2.heap.size<=q/\bc u2 V))
 case first =>
  refine hda (fun cw=>bc u2 cw) (below_drew (Below.refl _ _)) fun hHeld=> ?_
  generalize u2.drew=X at hHeld |-
  refine tma 0 27 rfl ?_
  try simp only [Act.put,zaa,zba,zca]
  refine tma 1 28 rfl ?_
  try simp only [Act.put,zaa,zba,zca]
  refine tma 2 29 rfl ?_
  try simp only [Act.put,zaa,zba,zca]
  refine tma 3 30 rfl ?_
  try simp only [Act.put,zaa,zba,zca]
  refine tla 4 31 (.int .i64 k6) rfl ?_ ?_
  . intro w hSw;(try dsimp only at hSw);have r:w.cell? ⟨b1,9,none⟩=some (.int .i64 k6):=(C2.out.below hSw).cell 9;(try go_simp);(try simp [*])
  try simp only [Act.put,zaa,zba,zca]
  refine wpAnyH_ready (rs:=[5,9]) kc (by simp) ?_
  refine AllReadyH.cons (o:=⟨some 32,_,_,_,_,none⟩) rfl (fun K hK=> ?_) (AllReadyH.cons (o:=⟨some 9,_,_,_,_,none⟩) rfl (fun K hK=> ?_) AllReadyH.nil)
  . go_simp
    go_wp2_with (go_at_call 84;refine Calls.mono (GT.out _ (M2.out.gra.below hHeld)) ?_;rintro e x1 ⟨rfl,hb⟩)
    refine hK.out _ _ (below_then hHeld hb) ?_
    clear hK K hHeld
    intro hHeld
    try simp only [Act.put,zaa,zba,zca]
    refine tma 6 26 rfl ?_
    try simp only [Act.put,zaa,zba,zca]
    refine tma 7 33 rfl ?_
    try simp only [Act.put,zaa,zba,zca]
    refine tma 8 34 rfl ?_
    try simp only [Act.put,zaa,zba,zca]
    refine rda 9 ⟨some 9,_,_,_,_,none⟩ rfl fun K hK=> ?_
    have Zqb:Hid (Blk (x1.alloc (.cells sq1 55)) x1.heap.size sp1 55):=Blk.made _ _ _
    have Nqb:Hid (u2.heap.size<=x1.heap.size):=hHeld.size
    go_simp
    refine hK.out _ _ (below_new hHeld _) (fun hHeld2=> ?_)
    clear hK K hHeld
    generalize x1.alloc (.cells sq1 55)=x2 at hHeld2 Zqb  |-
    generalize x1.heap.size=qb at Nqb Zqb |-
    have hHeld:=hHeld2
    clear hHeld2
    try simp only [Act.put,zaa,zba,zca]
    refine rda 10 ⟨none,_,_,_,_,none⟩ rfl fun K hK=> ?_
    refine wanted_mp2 rfl ?_
    have th:x2.there qb 0 6:=Zqb.out.there
    refine wp_store_mid _ _ _ rfl qb 0 (sb1 gf gp gd gw gt ga) rfl rfl th kc kq1 ?_
    (try simp only [List.toList_toArray])
    have Fqb:Hid (Blk (x2.setCells qb 0 (sa1 gf gp gd gw gt ga)) qb (sa1 gf gp gd gw gt ga) 55):=Blk.put Zqb.out rfl
    have KS:Hid (bc u2 (x2.setCells qb 0 (sa1 gf gp gd gw gt ga))):=below_put hHeld Nqb.out _
    generalize x2.setCells qb 0 (sa1 gf gp gd gw gt ga)=x3 at Fqb KS |-
    clear th
    refine hK.out _ _ KS.out ?_
    clear hK K hHeld
    intro hHeld
    try simp only [Act.put,zaa,zba,zca]
    refine tma 11 10 rfl ?_
    try simp only [Act.put,zaa,zba,zca]
    have KE:Hid (bc u2 x3):=hHeld
    clear hHeld
    refine wpAnyH_done kc ?_ _
    refine NoPanic.normal ?_
    go_wp2_with fail
    go_meet
    exact ⟨qb,rfl,Fqb.out,Nqb.out,KE.out⟩
  . have Zqb:Hid (Blk (X.alloc (.cells sq1 55)) X.heap.size sp1 55):=Blk.made _ _ _
    have Nqb:Hid (u2.heap.size<=X.heap.size):=hHeld.size
    go_simp
    refine hK.out _ _ (below_new hHeld _) (fun hHeld2=> ?_)
    clear hK K hHeld
    generalize X.alloc (.cells sq1 55)=x1 at hHeld2 Zqb  |-
    generalize X.heap.size=qb at Nqb Zqb |-
    have hHeld:=hHeld2
    clear hHeld2
    try simp only [Act.put,zaa,zba,zca]
    refine rda 5 ⟨some 32,_,_,_,_,none⟩ rfl fun K hK=> ?_
    go_simp
    go_wp2_with (go_at_call 84;refine Calls.mono (GT.out _ (M2.out.gra.below hHeld)) ?_;rintro e x2 ⟨rfl,hb⟩)
    have Zqb:=Zqb.out.below hb
    have Zqb:Hid (Blk x2 qb sp1 55):=Zqb
    refine hK.out _ _ (below_then hHeld hb) ?_
    clear hK K hHeld
    intro hHeld
    try simp only [Act.put,zaa,zba,zca]
    refine tma 6 26 rfl ?_
    try simp only [Act.put,zaa,zba,zca]
    refine tma 7 33 rfl ?_
    try simp only [Act.put,zaa,zba,zca]
    refine tma 8 34 rfl ?_
    try simp only [Act.put,zaa,zba,zca]
    refine rda 10 ⟨none,_,_,_,_,none⟩ rfl fun K hK=> ?_
    refine wanted_mp2 rfl ?_
    have th:x2.there qb 0 6:=Zqb.out.there
    refine wp_store_mid _ _ _ rfl qb 0 (sb1 gf gp gd gw gt ga) rfl rfl th kc kq1 ?_
    (try simp only [List.toList_toArray])
    have Fqb:Hid (Blk (x2.setCells qb 0 (sa1 gf gp gd gw gt ga)) qb (sa1 gf gp gd gw gt ga) 55):=Blk.put Zqb.out rfl
    have KS:Hid (bc u2 (x2.setCells qb 0 (sa1 gf gp gd gw gt ga))):=below_put hHeld Nqb.out _
    generalize x2.setCells qb 0 (sa1 gf gp gd gw gt ga)=x3 at Fqb KS |-
    clear th
    refine hK.out _ _ KS.out ?_
    clear hK K hHeld
    intro hHeld
    try simp only [Act.put,zaa,zba,zca]
    refine tma 11 10 rfl ?_
    try simp only [Act.put,zaa,zba,zca]
    have KE:Hid (bc u2 x3):=hHeld
    clear hHeld
    refine wpAnyH_done kc ?_ _
    refine NoPanic.normal ?_
    go_wp2_with fail
    go_meet
    exact ⟨qb,rfl,Fqb.out,Nqb.out,KE.out⟩
 case rest =>
 obtain ⟨q,rfl,hq⟩:=hcut
 obtain ⟨w4,hw4⟩: ∃ w4,w4=wc:=⟨_,rfl⟩
 subst hw4
 have M4:Hid (Mn O n w4 M Q T root I1 A B):=M2.out.below hq.out.2.2
 have C4:Hid (Blk w4 b1 (su 7 k1 k2 k3 k4 k5 ad sz x k6 k7 k8 k9) 70):=C2.out.below hq.out.2.2
 have K4:Hid (Ko O W w4/\W.heap.size<=w4.heap.size):=⟨K2.out.1.trans (kept_of_below hq.out.2.2 fun j hj=>nla hj.2 K2.out.2),Nat.le_trans K2.out.2 hq.out.2.2.size⟩
 have Q4:Hid (Blk w4 q (sa1 gf gp gd gw gt ga) 55):=hq.out.1
 have z0:w4.cell? ⟨q,0,none⟩=some (.int .i64 gf):=Q4.out.cell 0
 have z1:w4.cell? ⟨q,1,none⟩=some (.int .i64 gp):=Q4.out.cell 1
 have z2:w4.cell? ⟨q,2,none⟩=some (.int .i64 gd):=Q4.out.cell 2
 have z3:w4.cell? ⟨q,3,none⟩=some (.bool gw):=Q4.out.cell 3
 have z4:w4.cell? ⟨q,4,none⟩=some (.bool gt):=Q4.out.cell 4
 have z5:w4.cell? ⟨q,5,none⟩=some (.int .i64 ga):=Q4.out.cell 5
 clear hq M2 C2 K2 GT AC
 go_wp2_with fail
 refine Calls.mono (LC.out _ M4.out) ?_
 rintro e w5 ⟨rfl,htx⟩
 have T5:Hid (∃ O',Y O' w5/\(∀ j,j<W.heap.size->O' j=O j)/\Ko O W w5/\W.heap.size<=w5.heap.size/\O' b1=0/\(∀ j,O' j≠0->j<w5.heap.size)):=by
  obtain ⟨O',m,e1,e2,k⟩:=htx
  exact ⟨O',m,fun j hj=>e1 j (nla hj K4.out.2),K4.out.1.trans (k.sub fun j hj=>⟨hj.1,nla hj.2 K4.out.2⟩),Nat.le_trans K4.out.2 k.size,(e1 b1 C4.out.lt).trans OB1.out,e2⟩
 have C5:Hid (Blk w5 b1 (su 7 k1 k2 k3 k4 k5 ad sz x k6 k7 k8 k9) 70):=htx.choose_spec.2.2.2.blk C4.out OB1.out
 clear htx M4 C4 K4 Q4 LC z0 z1 z2 z3 z4 z5
 go_wp2_with fail
 go_returns
 obtain ⟨O',m,e1,k,_,_,l⟩:=T5.out
 exact ⟨rfl,O',m,e1,l,k⟩
theorem Mn.revoke_no (h:Mn O n W M Q T root I A B) (i:Nat) (k1 k2:Int) (k3 k4 k5:Bool) (ad sz x k6 k7 k8 k9:Int) (gf gp gd ga:Int) (gw gt:Bool) (hg:Sh.revG I k6 (i:Nat)=⟨gf,gp,gd,gw,gt,ga⟩) (E:Int) (E0:E≠0) (ha:Sh.revE I k6 (i:Nat)=E) :
 Calls Tryz.prog 64 #[pp M.mb,.int .i64 (i:Nat),.agg (sq 8 k1 k2 k3 k4 k5 ad sz x k6 k7 k8 k9)] W fun e w'=>e=.returned (.int .i64 E)/\Tx O W (fun O' V=>Mn O' n V M Q T root I A B) w':=by
 have HM:Hid (Mn O n W M Q T root I A B):=h
 have OB:Hid (∀ b,W.heap.size<=b->O b=0):=fun b hb=>bca fun hh=>by have:=h.lt b hh;omega
 have MB:Hid (M.mb<W.heap.size):=h.lt _ kn1
 have UC:Hid (∀ w,bc W w->Calls Tryz.prog 87 #[.pointer (some ⟨M.mb,2,none⟩),.int .i64 k6,.int .i64 (i:Nat)] w fun e w'=>e=.returned (.tuple #[.agg (sb1 gf gp gd gw gt ga),.int .i64 E])/\Sh.IsTab (ME M) w' M.mb I/\w.grownBy w' (some M.mb)):=fun w hb=>by
  have q:=Sh.revoke_any M.mb I k6 (i:Nat) w (HM.out.below hb).gra
  rw [ha,hg] at q
  rw [show Sh.revT I k6 (i:Nat)=I from if_neg (by rw [ha];exact E0)] at q
  exact q
 have d1:decide (E=0)=false:=by simp [E0]
 have d2:(E==0)=false:=by simp [E0]
 have d3:(E != 0)=true:=by simp [E0]
 have G0:Hid (bc W (W.alloc (.cells (sq 8 k1 k2 k3 k4 k5 ad sz x k6 k7 k8 k9) 70))/\Blk (W.alloc (.cells (sq 8 k1 k2 k3 k4 k5 ad sz x k6 k7 k8 k9) 70)) W.heap.size (su 8 k1 k2 k3 k4 k5 ad sz x k6 k7 k8 k9) 70):=⟨baa,Blk.made _ _ _⟩
 clear h ha hg E0
 go_enter Tryz.func64,Tryz.ntmps64
 go_upto_region 1 with fail
 generalize (W.alloc (.cells (sq 8 k1 k2 k3 k4 k5 ad sz x k6 k7 k8 k9) 70))=W1 at G0 |-
 obtain ⟨b1,hb1⟩: ∃ b1,b1=W.heap.size:=⟨_,rfl⟩
 have G1:Hid (bc W W1/\Blk W1 b1 (su 8 k1 k2 k3 k4 k5 ad sz x k6 k7 k8 k9) 70):=kt1
 have NB:Hid (W.heap.size<=b1):=ks
 have OB1:Hid (O b1=0):=OB.out b1 NB.out
 rw [<- hb1]
 clear hb1 G0
 have y0:W1.cell? ⟨b1,0,none⟩=some (.int .i64 8):=G1.out.2.cell 0
 have y9:W1.cell? ⟨b1,9,none⟩=some (.int .i64 k6):=G1.out.2.cell 9
 go_wp2_with fail
 refine Calls.mono (UC.out _ G1.out.1) ?_
 rintro e u2 ⟨rfl,ht2,hg2⟩
 have C2:Hid (Blk u2 b1 (su 8 k1 k2 k3 k4 k5 ad sz x k6 k7 k8 k9) 70):=(hg2.block b1 G1.out.2.lt (fun e=>by have:=sia e;have:=MB.out;have:=NB.out;omega)).trans G1.out.2
 have MG:=(HM.out.below G1.out.1).grants ht2 hg2
 have M2:Hid (Mn O n u2 M Q T root I A B):=MG.1
 have K2:Hid (Ko O W u2/\W.heap.size<=u2.heap.size):=⟨(Ko.of_below G1.out.1).trans (MG.2.sub fun j hj=>⟨hj.1,nla hj.2 G1.out.1.size⟩),Nat.le_trans G1.out.1.size hg2.size⟩
 clear MG ht2 hg2 G1 UC y0 y9
 go_upto_region 5 with fail
 have G5:Hid (bc u2 (u2.alloc (.cells (sb1 gf gp gd gw gt ga) 55))/\Blk (u2.alloc (.cells (sb1 gf gp gd gw gt ga) 55)) u2.heap.size (sa1 gf gp gd gw gt ga) 55):=⟨baa,Blk.made _ _ _⟩
 generalize (u2.alloc (.cells (sb1 gf gp gd gw gt ga) 55))=w4 at G5 |-
 obtain ⟨q,hq⟩: ∃ q,q=u2.heap.size:=⟨_,rfl⟩
 have Q4:Hid (Blk w4 q (sa1 gf gp gd gw gt ga) 55):=by rw [hq];exact G5.out.2
 rw [<- hq]
 have M4:Hid (Mn O n w4 M Q T root I A B):=M2.out.below G5.out.1
 have K4:Hid (Ko O W w4/\W.heap.size<=w4.heap.size):=⟨K2.out.1.trans (kept_of_below G5.out.1 fun j hj=>nla hj.2 K2.out.2),Nat.le_trans K2.out.2 G5.out.1.size⟩
 clear hq G5 M2 K2 C2
 go_wp2_with fail
 go_returns
 exact ⟨rfl,O,M4.out,fun _ _=>rfl,M4.out.lt,K4.out.1⟩
theorem Mn.revoke (h:Mn O n W M Q T root I A B) (i:Nat) (k1 k2:Int) (k3 k4 k5:Bool) (ad sz x k6 k7 k8 k9:Int) (gf gp gd ga:Int) (gw gt:Bool) (hg:Sh.revG I k6 (i:Nat)=⟨gf,gp,gd,gw,gt,ga⟩) (ha:Sh.revE I k6 (i:Nat)=0) (I1:Nat->Sh.Gr) (hI1:Sh.revT I k6 (i:Nat)=I1) (Y:(Nat->Nat)->World->Prop) (HL: ∀ (w:World),Mn O n w M Q T root I1 A B->Calls Tryz.prog 88 #[pp M.mb,.agg (sb1 gf gp gd gw gt ga)] w fun e w'=>e=.returned (.tuple #[])/\Tx O w Y w') :
 Calls Tryz.prog 64 #[pp M.mb,.int .i64 (i:Nat),.agg (sq 8 k1 k2 k3 k4 k5 ad sz x k6 k7 k8 k9)] W fun e w'=>e=.returned (.int .i64 0)/\Tx O W Y w':=by
 have HM:Hid (Mn O n W M Q T root I A B):=h
 have OB:Hid (∀ b,W.heap.size<=b->O b=0):=fun b hb=>bca fun hh=>by have:=h.lt b hh;omega
 have MB:Hid (M.mb<W.heap.size):=h.lt _ kn1
 have UC:Hid (∀ w,bc W w->Calls Tryz.prog 87 #[.pointer (some ⟨M.mb,2,none⟩),.int .i64 k6,.int .i64 (i:Nat)] w fun e w'=>e=.returned (.tuple #[.agg (sb1 gf gp gd gw gt ga),.int .i64 0])/\Sh.IsTab (ME M) w' M.mb I1/\w.grownBy w' (some M.mb)):=fun w hb=>by
  have q:=Sh.revoke_any M.mb I k6 (i:Nat) w (HM.out.below hb).gra
  rw [ha,hg,hI1] at q
  skip
  exact q
 have BC:Hid (∀ (w:World),Mn O n w M Q T root I1 A B->Calls Tryz.prog 88 #[pp M.mb,.agg (sb1 gf gp gd gw gt ga)] w fun e w'=>e=.returned (.tuple #[])/\Tx O w Y w'):=HL
 have G0:Hid (bc W (W.alloc (.cells (sq 8 k1 k2 k3 k4 k5 ad sz x k6 k7 k8 k9) 70))/\Blk (W.alloc (.cells (sq 8 k1 k2 k3 k4 k5 ad sz x k6 k7 k8 k9) 70)) W.heap.size (su 8 k1 k2 k3 k4 k5 ad sz x k6 k7 k8 k9) 70):=⟨baa,Blk.made _ _ _⟩
 clear h ha hg hI1 HL
 go_enter Tryz.func64,Tryz.ntmps64
 go_upto_region 1 with fail
 generalize (W.alloc (.cells (sq 8 k1 k2 k3 k4 k5 ad sz x k6 k7 k8 k9) 70))=W1 at G0 |-
 obtain ⟨b1,hb1⟩: ∃ b1,b1=W.heap.size:=⟨_,rfl⟩
 have G1:Hid (bc W W1/\Blk W1 b1 (su 8 k1 k2 k3 k4 k5 ad sz x k6 k7 k8 k9) 70):=kt1
 have NB:Hid (W.heap.size<=b1):=ks
 have OB1:Hid (O b1=0):=OB.out b1 NB.out
 rw [<- hb1]
 clear hb1 G0
 have y0:W1.cell? ⟨b1,0,none⟩=some (.int .i64 8):=G1.out.2.cell 0
 have y9:W1.cell? ⟨b1,9,none⟩=some (.int .i64 k6):=G1.out.2.cell 9
 go_wp2_with fail
 refine Calls.mono (UC.out _ G1.out.1) ?_
 rintro e u2 ⟨rfl,ht2,hg2⟩
 have C2:Hid (Blk u2 b1 (su 8 k1 k2 k3 k4 k5 ad sz x k6 k7 k8 k9) 70):=(hg2.block b1 G1.out.2.lt (fun e=>by have:=sia e;have:=MB.out;have:=NB.out;omega)).trans G1.out.2
 have MG:=(HM.out.below G1.out.1).grants ht2 hg2
 have M2:Hid (Mn O n u2 M Q T root I1 A B):=MG.1
 have K2:Hid (Ko O W u2/\W.heap.size<=u2.heap.size):=⟨(Ko.of_below G1.out.1).trans (MG.2.sub fun j hj=>⟨hj.1,nla hj.2 G1.out.1.size⟩),Nat.le_trans G1.out.1.size hg2.size⟩
 clear MG ht2 hg2 G1 UC y0 y9
 go_upto_region 5 with fail
 have G5:Hid (bc u2 (u2.alloc (.cells (sb1 gf gp gd gw gt ga) 55))/\Blk (u2.alloc (.cells (sb1 gf gp gd gw gt ga) 55)) u2.heap.size (sa1 gf gp gd gw gt ga) 55):=⟨baa,Blk.made _ _ _⟩
 generalize (u2.alloc (.cells (sb1 gf gp gd gw gt ga) 55))=w4 at G5 |-
 obtain ⟨q,hq⟩: ∃ q,q=u2.heap.size:=⟨_,rfl⟩
 have Q4:Hid (Blk w4 q (sa1 gf gp gd gw gt ga) 55):=by rw [hq];exact G5.out.2
 rw [<- hq]
 have M4:Hid (Mn O n w4 M Q T root I1 A B):=M2.out.below G5.out.1
 have K4:Hid (Ko O W w4/\W.heap.size<=w4.heap.size):=⟨K2.out.1.trans (kept_of_below G5.out.1 fun j hj=>nla hj.2 K2.out.2),Nat.le_trans K2.out.2 G5.out.1.size⟩
 clear hq G5 M2 K2 C2
 have z0:w4.cell? ⟨q,0,none⟩=some (.int .i64 gf):=Q4.out.cell 0
 have z1:w4.cell? ⟨q,1,none⟩=some (.int .i64 gp):=Q4.out.cell 1
 have z2:w4.cell? ⟨q,2,none⟩=some (.int .i64 gd):=Q4.out.cell 2
 have z3:w4.cell? ⟨q,3,none⟩=some (.bool gw):=Q4.out.cell 3
 have z4:w4.cell? ⟨q,4,none⟩=some (.bool gt):=Q4.out.cell 4
 have z5:w4.cell? ⟨q,5,none⟩=some (.int .i64 ga):=Q4.out.cell 5
 go_wp2_with fail
 refine Calls.mono (BC.out _ M4.out) ?_
 rintro e w5 ⟨rfl,htx⟩
 have HE:Hid (Tx O W Y w5):=by
  obtain ⟨O',m,e1,e2,k⟩:=htx
  exact ⟨O',m,fun j hj=>e1 j (nla hj K4.out.2),e2,K4.out.1.trans (k.sub fun j hj=>⟨hj.1,nla hj.2 K4.out.2⟩)⟩
 clear htx M4 K4 Q4 BC z0 z1 z2 z3 z4 z5
 go_wp2_with fail
 go_returns
 exact ⟨rfl,HE.out⟩
theorem Mn.leave_no (h:Mn O n W M Q T root I A B) (i:Nat) (k1 k2:Int) (k3 k4 k5:Bool) (ad sz x k6 k7 k8 k9:Int) (gf gp gd ga:Int) (gw gt:Bool) (hg:Sh.leaG I k6 (i:Nat)=⟨gf,gp,gd,gw,gt,ga⟩) (E:Int) (E0:E≠0) (ha:Sh.leaE I k6 (i:Nat)=E) :
 Calls Tryz.prog 64 #[pp M.mb,.int .i64 (i:Nat),.agg (sq 9 k1 k2 k3 k4 k5 ad sz x k6 k7 k8 k9)] W fun e w'=>e=.returned (.int .i64 E)/\Tx O W (fun O' V=>Mn O' n V M Q T root I A B) w':=by
 have HM:Hid (Mn O n W M Q T root I A B):=h
 have OB:Hid (∀ b,W.heap.size<=b->O b=0):=fun b hb=>bca fun hh=>by have:=h.lt b hh;omega
 have MB:Hid (M.mb<W.heap.size):=h.lt _ kn1
 have UC:Hid (∀ w,bc W w->Calls Tryz.prog 86 #[.pointer (some ⟨M.mb,2,none⟩),.int .i64 k6,.int .i64 (i:Nat)] w fun e w'=>e=.returned (.tuple #[.agg (sb1 gf gp gd gw gt ga),.int .i64 E])/\Sh.IsTab (ME M) w' M.mb I/\w.grownBy w' (some M.mb)):=fun w hb=>by
  have q:=Sh.leave_any M.mb I k6 (i:Nat) w (HM.out.below hb).gra
  rw [ha,hg] at q
  rw [show Sh.leaT I k6 (i:Nat)=I from if_neg (by rw [ha];exact E0)] at q
  exact q
 have d1:decide (E=0)=false:=by simp [E0]
 have d2:(E==0)=false:=by simp [E0]
 have d3:(E != 0)=true:=by simp [E0]
 have G0:Hid (bc W (W.alloc (.cells (sq 9 k1 k2 k3 k4 k5 ad sz x k6 k7 k8 k9) 70))/\Blk (W.alloc (.cells (sq 9 k1 k2 k3 k4 k5 ad sz x k6 k7 k8 k9) 70)) W.heap.size (su 9 k1 k2 k3 k4 k5 ad sz x k6 k7 k8 k9) 70):=⟨baa,Blk.made _ _ _⟩
 clear h ha hg E0
 go_enter Tryz.func64,Tryz.ntmps64
 go_upto_region 1 with fail
 generalize (W.alloc (.cells (sq 9 k1 k2 k3 k4 k5 ad sz x k6 k7 k8 k9) 70))=W1 at G0 |-
 obtain ⟨b1,hb1⟩: ∃ b1,b1=W.heap.size:=⟨_,rfl⟩
 have G1:Hid (bc W W1/\Blk W1 b1 (su 9 k1 k2 k3 k4 k5 ad sz x k6 k7 k8 k9) 70):=kt1
 have NB:Hid (W.heap.size<=b1):=ks
 have OB1:Hid (O b1=0):=OB.out b1 NB.out
 rw [<- hb1]
 clear hb1 G0
 have y0:W1.cell? ⟨b1,0,none⟩=some (.int .i64 9):=G1.out.2.cell 0
 have y9:W1.cell? ⟨b1,9,none⟩=some (.int .i64 k6):=G1.out.2.cell 9
 go_wp2_with fail
 refine Calls.mono (UC.out _ G1.out.1) ?_
 rintro e u2 ⟨rfl,ht2,hg2⟩
 have C2:Hid (Blk u2 b1 (su 9 k1 k2 k3 k4 k5 ad sz x k6 k7 k8 k9) 70):=(hg2.block b1 G1.out.2.lt (fun e=>by have:=sia e;have:=MB.out;have:=NB.out;omega)).trans G1.out.2
 have MG:=(HM.out.below G1.out.1).grants ht2 hg2
 have M2:Hid (Mn O n u2 M Q T root I A B):=MG.1
 have K2:Hid (Ko O W u2/\W.heap.size<=u2.heap.size):=⟨(Ko.of_below G1.out.1).trans (MG.2.sub fun j hj=>⟨hj.1,nla hj.2 G1.out.1.size⟩),Nat.le_trans G1.out.1.size hg2.size⟩
 clear MG ht2 hg2 G1 UC y0 y9
 go_upto_region 5 with fail
 have G5:Hid (bc u2 (u2.alloc (.cells (sb1 gf gp gd gw gt ga) 55))/\Blk (u2.alloc (.cells (sb1 gf gp gd gw gt ga) 55)) u2.heap.size (sa1 gf gp gd gw gt ga) 55):=⟨baa,Blk.made _ _ _⟩
 generalize (u2.alloc (.cells (sb1 gf gp gd gw gt ga) 55))=w4 at G5 |-
 obtain ⟨q,hq⟩: ∃ q,q=u2.heap.size:=⟨_,rfl⟩
 have Q4:Hid (Blk w4 q (sa1 gf gp gd gw gt ga) 55):=by rw [hq];exact G5.out.2
 rw [<- hq]
 have M4:Hid (Mn O n w4 M Q T root I A B):=M2.out.below G5.out.1
 have K4:Hid (Ko O W w4/\W.heap.size<=w4.heap.size):=⟨K2.out.1.trans (kept_of_below G5.out.1 fun j hj=>nla hj.2 K2.out.2),Nat.le_trans K2.out.2 G5.out.1.size⟩
 clear hq G5 M2 K2 C2
 go_wp2_with fail
 go_returns
 exact ⟨rfl,O,M4.out,fun _ _=>rfl,M4.out.lt,K4.out.1⟩
theorem Mn.leave (h:Mn O n W M Q T root I A B) (i:Nat) (k1 k2:Int) (k3 k4 k5:Bool) (ad sz x k6 k7 k8 k9:Int) (gf gp gd ga:Int) (gw gt:Bool) (hg:Sh.leaG I k6 (i:Nat)=⟨gf,gp,gd,gw,gt,ga⟩) (ha:Sh.leaE I k6 (i:Nat)=0) (I1:Nat->Sh.Gr) (hI1:Sh.leaT I k6 (i:Nat)=I1) (Y:(Nat->Nat)->World->Prop) (HL: ∀ (w:World),Mn O n w M Q T root I1 A B->Calls Tryz.prog 88 #[pp M.mb,.agg (sb1 gf gp gd gw gt ga)] w fun e w'=>e=.returned (.tuple #[])/\Tx O w Y w') :
 Calls Tryz.prog 64 #[pp M.mb,.int .i64 (i:Nat),.agg (sq 9 k1 k2 k3 k4 k5 ad sz x k6 k7 k8 k9)] W fun e w'=>e=.returned (.int .i64 0)/\Tx O W Y w':=by
 have HM:Hid (Mn O n W M Q T root I A B):=h
 have OB:Hid (∀ b,W.heap.size<=b->O b=0):=fun b hb=>bca fun hh=>by have:=h.lt b hh;omega
 have MB:Hid (M.mb<W.heap.size):=h.lt _ kn1
 have UC:Hid (∀ w,bc W w->Calls Tryz.prog 86 #[.pointer (some ⟨M.mb,2,none⟩),.int .i64 k6,.int .i64 (i:Nat)] w fun e w'=>e=.returned (.tuple #[.agg (sb1 gf gp gd gw gt ga),.int .i64 0])/\Sh.IsTab (ME M) w' M.mb I1/\w.grownBy w' (some M.mb)):=fun w hb=>by
  have q:=Sh.leave_any M.mb I k6 (i:Nat) w (HM.out.below hb).gra
  rw [ha,hg,hI1] at q
  skip
  exact q
 have BC:Hid (∀ (w:World),Mn O n w M Q T root I1 A B->Calls Tryz.prog 88 #[pp M.mb,.agg (sb1 gf gp gd gw gt ga)] w fun e w'=>e=.returned (.tuple #[])/\Tx O w Y w'):=HL
 have G0:Hid (bc W (W.alloc (.cells (sq 9 k1 k2 k3 k4 k5 ad sz x k6 k7 k8 k9) 70))/\Blk (W.alloc (.cells (sq 9 k1 k2 k3 k4 k5 ad sz x k6 k7 k8 k9) 70)) W.heap.size (su 9 k1 k2 k3 k4 k5 ad sz x k6 k7 k8 k9) 70):=⟨baa,Blk.made _ _ _⟩
 clear h ha hg hI1 HL
 go_enter Tryz.func64,Tryz.ntmps64
 go_upto_region 1 with fail
 generalize (W.alloc (.cells (sq 9 k1 k2 k3 k4 k5 ad sz x k6 k7 k8 k9) 70))=W1 at G0 |-
 obtain ⟨b1,hb1⟩: ∃ b1,b1=W.heap.size:=⟨_,rfl⟩
 have G1:Hid (bc W W1/\Blk W1 b1 (su 9 k1 k2 k3 k4 k5 ad sz x k6 k7 k8 k9) 70):=kt1
 have NB:Hid (W.heap.size<=b1):=ks
 have OB1:Hid (O b1=0):=OB.out b1 NB.out
 rw [<- hb1]
 clear hb1 G0
 have y0:W1.cell? ⟨b1,0,none⟩=some (.int .i64 9):=G1.out.2.cell 0
 have y9:W1.cell? ⟨b1,9,none⟩=some (.int .i64 k6):=G1.out.2.cell 9
 go_wp2_with fail
 refine Calls.mono (UC.out _ G1.out.1) ?_
 rintro e u2 ⟨rfl,ht2,hg2⟩
 have C2:Hid (Blk u2 b1 (su 9 k1 k2 k3 k4 k5 ad sz x k6 k7 k8 k9) 70):=(hg2.block b1 G1.out.2.lt (fun e=>by have:=sia e;have:=MB.out;have:=NB.out;omega)).trans G1.out.2
 have MG:=(HM.out.below G1.out.1).grants ht2 hg2
 have M2:Hid (Mn O n u2 M Q T root I1 A B):=MG.1
 have K2:Hid (Ko O W u2/\W.heap.size<=u2.heap.size):=⟨(Ko.of_below G1.out.1).trans (MG.2.sub fun j hj=>⟨hj.1,nla hj.2 G1.out.1.size⟩),Nat.le_trans G1.out.1.size hg2.size⟩
 clear MG ht2 hg2 G1 UC y0 y9
 go_upto_region 5 with fail
 have G5:Hid (bc u2 (u2.alloc (.cells (sb1 gf gp gd gw gt ga) 55))/\Blk (u2.alloc (.cells (sb1 gf gp gd gw gt ga) 55)) u2.heap.size (sa1 gf gp gd gw gt ga) 55):=⟨baa,Blk.made _ _ _⟩
 generalize (u2.alloc (.cells (sb1 gf gp gd gw gt ga) 55))=w4 at G5 |-
 obtain ⟨q,hq⟩: ∃ q,q=u2.heap.size:=⟨_,rfl⟩
 have Q4:Hid (Blk w4 q (sa1 gf gp gd gw gt ga) 55):=by rw [hq];exact G5.out.2
 rw [<- hq]
 have M4:Hid (Mn O n w4 M Q T root I1 A B):=M2.out.below G5.out.1
 have K4:Hid (Ko O W w4/\W.heap.size<=w4.heap.size):=⟨K2.out.1.trans (kept_of_below G5.out.1 fun j hj=>nla hj.2 K2.out.2),Nat.le_trans K2.out.2 G5.out.1.size⟩
 clear hq G5 M2 K2 C2
 have z0:w4.cell? ⟨q,0,none⟩=some (.int .i64 gf):=Q4.out.cell 0
 have z1:w4.cell? ⟨q,1,none⟩=some (.int .i64 gp):=Q4.out.cell 1
 have z2:w4.cell? ⟨q,2,none⟩=some (.int .i64 gd):=Q4.out.cell 2
 have z3:w4.cell? ⟨q,3,none⟩=some (.bool gw):=Q4.out.cell 3
 have z4:w4.cell? ⟨q,4,none⟩=some (.bool gt):=Q4.out.cell 4
 have z5:w4.cell? ⟨q,5,none⟩=some (.int .i64 ga):=Q4.out.cell 5
 go_wp2_with fail
 refine Calls.mono (BC.out _ M4.out) ?_
 rintro e w5 ⟨rfl,htx⟩
 have HE:Hid (Tx O W Y w5):=by
  obtain ⟨O',m,e1,e2,k⟩:=htx
  exact ⟨O',m,fun j hj=>e1 j (nla hj K4.out.2),e2,K4.out.1.trans (k.sub fun j hj=>⟨hj.1,nla hj.2 K4.out.2⟩)⟩
 clear htx M4 K4 Q4 BC z0 z1 z2 z3 z4 z5
 go_wp2_with fail
 go_returns
 exact ⟨rfl,HE.out⟩
end
end Go.Proofs.YtokpmclmdobgeaaGreat.Fl
