import Derived.Test.YthmobfelhpbllaaGreatDoorKZb
import Derived.Test.YthmobfelhpbllaaGreatDoorOVb
import Derived.Deep.DeepCutAuto
namespace Go.Proofs.YthmobfelhpbllaaGreatDoor.Bm
open Go.ChangeShapes Go.WideShapes Go.ChangeAt Go.RowKit Go.Maps
set_option linter.unusedSimpArgs false
set_option linter.unusedVariables false
set_option maxRecDepth 8000
theorem blk_scs (w:World) {g b:Nat} (ne:g≠b): ∀ (vs:List Value) (o:Nat),(w.setCells b o vs).heap[g]? =w.heap[g]? :=fun vs=>by
 induction vs generalizing w with
 | nil => intro o; rfl
 | cons v vs ih => intro o; rw [World.setCells, ih (w.setCell ⟨b, o, none⟩ v) (o + 1)]; exact Below.heap_setCell _ _ _ _ ne
theorem rparse_big (p:Option Addr) (n c:Nat) (hn:1280<n) (w:World):Calls Tryz.prog 72 #[.slice p n c] w fun e w'=>e=.returned (.tuple #[.slice none 0 0,.int .i64 4])/\Below w.heap.size w w':=by
 have d1:decide ((1280:Int)<(n:Int))=true:=decide_eq_true (by omega)
 go_enter Tryz.func72,Tryz.ntmps72
 go_wp2_with fail
 go_returns
 exact ⟨rfl,Below.refl _ _⟩
theorem rparse_end (p:Option Addr) (n c:Nat) (hn:n<=1280) (hm:n % 20≠0) (w:World):Calls Tryz.prog 72 #[.slice p n c] w fun e w'=>e=.returned (.tuple #[.slice none 0 0,.int .i64 14])/\Below w.heap.size w w':=by
 have d1:decide ((1280:Int)<(n:Int))=false:=decide_eq_false (by omega)
 have d2:decide ((0:Int)<(n:Int) % 20)=true:=decide_eq_true (by omega)
 have d3:decide ((0:Int)<(n:Int).tmod 20)=true:=by rw [Int.tmod_eq_emod_of_nonneg (by omega)];exact d2
 go_enter Tryz.func72,Tryz.ntmps72
 go_wp2_with fail
 go_returns
 exact ⟨rfl,Below.refl _ _⟩
set_option maxHeartbeats 4000000 in
theorem rparse_loop (g o m n c:Nat) (B:Nat->Int) (hB: ∀ i,0<=B i/\B i<256) (hm:m<=64) (hn:n=m*20) (hc:n<=c) (w:World) (lg:g<w.heap.size) (hcs: ∀ i,i<n->w.cell? ⟨g,o+i,none⟩=some (.int .u8 (B i))) :
 Calls Tryz.prog 72 #[.slice (some ⟨g,o,none⟩) n c] w fun e w'=>((∃ v',e=.returned (.tuple #[v',.int .i64 0])/\OL 160 3 eA w' w.heap.size v' (areasL B m)/\ ∀ x∈areasL B m,Fit x)\/(e=.returned (.tuple #[.slice none 0 0,.int .i64 3])/\ ∃ x∈areasL B m,¬ Fit x))/\Below w.heap.size w w':=by
 have d1:decide ((1280:Int)<(n:Int))=false:=decide_eq_false (by omega)
 have d2:decide ((0:Int)<(n:Int) % 20)=false:=decide_eq_false (by omega)
 have d3:decide ((0:Int)<(n:Int).tmod 20)=false:=by rw [Int.tmod_eq_emod_of_nonneg (by omega)];exact d2
 have HB:Hid (∀ i,0<=B i/\B i<256):=hB
 have HC:Hid (∀ i,i<n->w.cell? ⟨g,o+i,none⟩=some (.int .u8 (B i))):=hcs
 have LG:Hid (g<w.heap.size):=lg
 have J0:Hid (OL 160 3 eA (w.alloc (.cells #[] 160)) w.heap.size (.slice (some ⟨w.heap.size,0,none⟩) 0 0) (areasL B 0)/\Below w.heap.size w (w.alloc (.cells #[] 160))):=⟨ol_made w _ (Nat.le_refl _),Go.Joins.below_alloc1 _ _⟩
 have HN:Hid (n=m*20):=hn
 have n9:n<=1280:=by omega
 have d4:((n:Int) % 20)=0:=by omega
 have d5:(n:Int).tmod 20=0:=by rw [Int.tmod_eq_emod_of_nonneg (by omega)];exact d4
 clear hB hcs lg hn
 go_enter Tryz.func72,Tryz.ntmps72
 go_wp2_with fail
 generalize Value.slice (some ⟨w.heap.size,0,none⟩) 0 0=v4 at J0 |-
 generalize w.alloc (.cells #[] 160)=w1 at J0 |-
 go_loopw [4,5,6] (fun v x _ W=> ∃ k a:Nat,k<=m/\Hid (a=k*20)/\x=.int .i64 a/\Hid (OL 160 3 eA W w.heap.size v (areasL B k)/\Below w.heap.size w W)/\Hid (∀ x∈areasL B k,Fit x)) (fun _ x _ _=>n-(Go.RowKit.intOf x).toNat)
 case atStart=>exact ⟨0,0,by omega,rfl,rfl,J0,(fun x hx=>absurd hx List.not_mem_nil)⟩
 case round =>
  clear J0
  obtain ⟨k,a,hk,ha0,rfl,JL,JF⟩:=hrel
  have ha:=ha0.out
  by_cases ck:k<m
  rotate_left
  . obtain rfl:k=m:=by omega
    obtain rfl:a=n:=by have:=HN.out;omega
    have dk:decide ((a:Int)<(a:Int))=false:=by simp
    clear ha ha0
    go_wp2_with fail
    go_returns
    exact ⟨Or.inl ⟨u4,rfl,JL.out.1,JF.out⟩,JL.out.2⟩
  have a20:a+20<=n:=by have:=HN.out;omega
  have dk:decide ((a:Int)<(n:Int))=true:=decide_eq_true (by omega)
  have HS:Hid (∀ i,i<20->wr.cell? ⟨g,o+a+i,none⟩=some (.int .u8 (B (a+i)))):=fun i hi=>by
   rw [World.cell?_of_block (w:=w) (JL.out.2.block g LG.out),Nat.add_assoc];exact HC.out (a+i) (by omega)
  have C1: ∀ W:World,(∀ i,i<20->W.cell? ⟨g,o+a+i,none⟩=some (.int .u8 (B (a+i))))->_:=fun W h=>rnumber_any g (o+a) 8 (c-a) a B HB.out (by omega) W (fun i hi=>h i (by omega))
  have C2: ∀ W:World,(∀ i,i<20->W.cell? ⟨g,o+a+i,none⟩=some (.int .u8 (B (a+i))))->_:=fun W h=>rnumber_any g (o+(a+8)) 8 (c-(a+8)) (a+8) B HB.out (by omega) W (fun i hi=>by have:=h (8+i) (by omega);rw [show o+(a+8)+i=o+a+(8+i) by omega,Nat.add_assoc a];exact this)
  have C3: ∀ W:World,(∀ i,i<20->W.cell? ⟨g,o+a+i,none⟩=some (.int .u8 (B (a+i))))->_:=fun W h=>rnumber_any g (o+(a+16)) 4 (c-(a+16)) (a+16) B HB.out (by omega) W (fun i hi=>by have:=h (16+i) (by omega);rw [show o+(a+16)+i=o+a+(16+i) by omega,Nat.add_assoc a];exact this)
  have WF:=arB_wf HB.out a
  have NX:Hid (areasL B (k+1)=areasL B k++[arB B a]):=by show _=_;rw [ha];exact areas_succ B k
  have IN:Hid (arB B a∈areasL B m):=by
   show _∈_
   unfold areasL
   exact List.mem_map.2 ⟨k,List.mem_range.2 ck,by rw [ha]⟩
  have FI:=fit_iff WF
  obtain ⟨X1,e1⟩: ∃ X,le B a 8=X:=⟨_,rfl⟩
  obtain ⟨X2,e2⟩: ∃ X,le B (a+8) 8=X:=⟨_,rfl⟩
  obtain ⟨X3,e3⟩: ∃ X,le B (a+16) 4=X:=⟨_,rfl⟩
  have AE:arB B a=⟨X1,X2,X3⟩:=by rw [<- e1,<- e2,<- e3];rfl
  rw [AE] at NX IN FI WF
  rw [e1] at C1
  rw [e2] at C2
  rw [e3] at C3
  obtain ⟨⟨x0,x1⟩,⟨x2,x3⟩,⟨x4,x5⟩⟩:=WF
  simp only at x0 x1 x2 x3 x4 x5 FI
  have HC1:Hid _:=C1
  have HC2:Hid _:=C2
  have HC3:Hid _:=C3
  have HFI:Hid (Fit ⟨X1,X2,X3⟩↔X1+X2<18446744073709551616):=FI
  have u3:IntKind.u32.wrap X3=X3:=by rw [IntKind.wrap_u32,Int.emod_eq_of_lt (by omega) (by omega)]
  have AN:=ha0
  clear C1 C2 C3 AE FI ha ha0 e1 e2 e3
  go_upto_region 9 with fail
  go_cut [6] (fun p W=> ∃ b,p=.pointer (some ⟨b,0,none⟩)/\Hid (Blk W b [.int .u64 X1,.int .u64 X2,.int .u32 X3] 160/\OL 160 3 eA W w.heap.size u4 (areasL B k)/\Below w.heap.size w W))
  case first =>
   refine wp_region_noPanic ?_
   refine wp_region_held_drew (S:=fun W=> ∀ i,i<20->W.cell? ⟨g,o+a+i,none⟩=some (.int .u8 (B (a+i)))) (by kernel_rfl) ?_ (fun hHeld=> ?_)
   . exact HS.out
   have JU:Hid (OL 160 3 eA wr.drew w.heap.size u4 (areasL B k)/\Below w.heap.size w wr.drew):=⟨row_below JL.out.1 (below_drew (Below.refl _ _)),below_drew JL.out.2⟩
   clear JL HS
   generalize wr.drew=U at hHeld JU |-
   refine tk 0 21 ?_ rfl (Or.inl ⟨by rfl,?_⟩) ?_
   rotate_left
   . intro w hSw;(try dsimp only at hSw);go_simp;(try with_reducible rfl)
   try simp only [Act.put,List.setIfInBounds_toArray,List.set_cons_zero,List.set_cons_succ]
   refine tk 1 22 ?_ rfl (Or.inl ⟨by rfl,?_⟩) ?_
   rotate_left
   . intro w hSw;(try dsimp only at hSw);go_simp;(try with_reducible rfl)
   try simp only [Act.put,List.setIfInBounds_toArray,List.set_cons_zero,List.set_cons_succ]
   refine tk 2 23 ?_ rfl (Or.inl ⟨by rfl,?_⟩) ?_
   rotate_left
   . intro w hSw;(try dsimp only at hSw);go_simp;(try with_reducible rfl)
   try simp only [Act.put,List.setIfInBounds_toArray,List.set_cons_zero,List.set_cons_succ]
   refine tk 3 24 ((.int .i64 ((a:Int)+8))) rfl (Or.inl ⟨by rfl,?_⟩) ?_
   . intro w hSw;(try dsimp only at hSw);go_simp;(try simp);(try (simp only [IntKind.wrap_i64];omega))
   try simp only [Act.put,List.setIfInBounds_toArray,List.set_cons_zero,List.set_cons_succ]
   refine tk 4 25 ((.slice (some ⟨g,o+a,none⟩) 8 (c-a))) rfl (Or.inl ⟨by rfl,?_⟩) ?_
   . intro w hSw;(try dsimp only at hSw);have f1: ¬ ((a:Int)+8<(a:Int)):=(by omega);have f2:(a:Int)+8<=(c:Int):=(by omega);have f3: ¬ c=a:=(by omega);have f4:(a:Int)+16<=(c:Int):=(by omega);have f5: ¬ ((a:Int)+16<(a:Int)+8):=(by omega);have f6: ¬ c=a+8:=(by omega);have f7:(a:Int)+20<=(c:Int):=(by omega);have f8: ¬ c=a+16:=(by omega);have f9: ¬ ((a:Int)+20<(a:Int)+16):=(by omega);have f10:((a:Int)+8-a).toNat=8:=(by omega);have f11:((a:Int)+16-(a+8)).toNat=8:=(by omega);have f12:((a:Int)+20-(a+16)).toNat=4:=(by omega);have f13:((a:Int)+8).toNat=a+8:=(by omega);have f14:((a:Int)+16).toNat=a+16:=(by omega);have f15:(0:Int)<=(a:Int)+8:=(by omega);have f16:(0:Int)<=(a:Int)+16:=(by omega);have f17:(0:Int)<=(a:Int)+20:=(by omega);have f18:((a:Int)+20).toNat=a+20:=(by omega);have f19:(a:Int)+8<=(a:Int)+16:=(by omega);have f20:(a:Int)+16<=(a:Int)+20:=(by omega);have f21:a+16-(a+8)=8:=(by omega);have f22:a+20-(a+16)=4:=(by omega);have f23:a+8-a=8:=(by omega);have f24: ¬ ((a:Int)+8<0):=(by omega);have f25: ¬ ((a:Int)+16<0):=(by omega);(try go_simp);(try simp [*])
   try simp only [Act.put,List.setIfInBounds_toArray,List.set_cons_zero,List.set_cons_succ]
   refine tk 6 27 ?_ rfl (Or.inl ⟨by rfl,?_⟩) ?_
   rotate_left
   . intro w hSw;(try dsimp only at hSw);go_simp;(try with_reducible rfl)
   try simp only [Act.put,List.setIfInBounds_toArray,List.set_cons_zero,List.set_cons_succ]
   refine tk 7 28 ?_ rfl (Or.inl ⟨by rfl,?_⟩) ?_
   rotate_left
   . intro w hSw;(try dsimp only at hSw);go_simp;(try with_reducible rfl)
   try simp only [Act.put,List.setIfInBounds_toArray,List.set_cons_zero,List.set_cons_succ]
   refine tk 8 29 ((.int .i64 ((a:Int)+8))) rfl (Or.inl ⟨by rfl,?_⟩) ?_
   . intro w hSw;(try dsimp only at hSw);go_simp;(try simp);(try (simp only [IntKind.wrap_i64];omega))
   try simp only [Act.put,List.setIfInBounds_toArray,List.set_cons_zero,List.set_cons_succ]
   refine tk 9 30 ?_ rfl (Or.inl ⟨by rfl,?_⟩) ?_
   rotate_left
   . intro w hSw;(try dsimp only at hSw);go_simp;(try with_reducible rfl)
   try simp only [Act.put,List.setIfInBounds_toArray,List.set_cons_zero,List.set_cons_succ]
   refine tk 10 31 ((.int .i64 ((a:Int)+16))) rfl (Or.inl ⟨by rfl,?_⟩) ?_
   . intro w hSw;(try dsimp only at hSw);go_simp;(try simp);(try (simp only [IntKind.wrap_i64];omega))
   try simp only [Act.put,List.setIfInBounds_toArray,List.set_cons_zero,List.set_cons_succ]
   refine tk 11 32 ((.slice (some ⟨g,o+(a+8),none⟩) 8 (c-(a+8)))) rfl (Or.inl ⟨by rfl,?_⟩) ?_
   . intro w hSw;(try dsimp only at hSw);have f1: ¬ ((a:Int)+8<(a:Int)):=(by omega);have f2:(a:Int)+8<=(c:Int):=(by omega);have f3: ¬ c=a:=(by omega);have f4:(a:Int)+16<=(c:Int):=(by omega);have f5: ¬ ((a:Int)+16<(a:Int)+8):=(by omega);have f6: ¬ c=a+8:=(by omega);have f7:(a:Int)+20<=(c:Int):=(by omega);have f8: ¬ c=a+16:=(by omega);have f9: ¬ ((a:Int)+20<(a:Int)+16):=(by omega);have f10:((a:Int)+8-a).toNat=8:=(by omega);have f11:((a:Int)+16-(a+8)).toNat=8:=(by omega);have f12:((a:Int)+20-(a+16)).toNat=4:=(by omega);have f13:((a:Int)+8).toNat=a+8:=(by omega);have f14:((a:Int)+16).toNat=a+16:=(by omega);have f15:(0:Int)<=(a:Int)+8:=(by omega);have f16:(0:Int)<=(a:Int)+16:=(by omega);have f17:(0:Int)<=(a:Int)+20:=(by omega);have f18:((a:Int)+20).toNat=a+20:=(by omega);have f19:(a:Int)+8<=(a:Int)+16:=(by omega);have f20:(a:Int)+16<=(a:Int)+20:=(by omega);have f21:a+16-(a+8)=8:=(by omega);have f22:a+20-(a+16)=4:=(by omega);have f23:a+8-a=8:=(by omega);have f24: ¬ ((a:Int)+8<0):=(by omega);have f25: ¬ ((a:Int)+16<0):=(by omega);(try go_simp);(try simp [*])
   try simp only [Act.put,List.setIfInBounds_toArray,List.set_cons_zero,List.set_cons_succ]
   refine tk 13 34 ?_ rfl (Or.inl ⟨by rfl,?_⟩) ?_
   rotate_left
   . intro w hSw;(try dsimp only at hSw);go_simp;(try with_reducible rfl)
   try simp only [Act.put,List.setIfInBounds_toArray,List.set_cons_zero,List.set_cons_succ]
   refine tk 14 35 ?_ rfl (Or.inl ⟨by rfl,?_⟩) ?_
   rotate_left
   . intro w hSw;(try dsimp only at hSw);go_simp;(try with_reducible rfl)
   try simp only [Act.put,List.setIfInBounds_toArray,List.set_cons_zero,List.set_cons_succ]
   refine tk 15 36 ((.int .i64 ((a:Int)+16))) rfl (Or.inl ⟨by rfl,?_⟩) ?_
   . intro w hSw;(try dsimp only at hSw);go_simp;(try simp);(try (simp only [IntKind.wrap_i64];omega))
   try simp only [Act.put,List.setIfInBounds_toArray,List.set_cons_zero,List.set_cons_succ]
   refine tk 16 37 ?_ rfl (Or.inl ⟨by rfl,?_⟩) ?_
   rotate_left
   . intro w hSw;(try dsimp only at hSw);go_simp;(try with_reducible rfl)
   try simp only [Act.put,List.setIfInBounds_toArray,List.set_cons_zero,List.set_cons_succ]
   refine tk 17 38 ((.int .i64 ((a:Int)+20))) rfl (Or.inl ⟨by rfl,?_⟩) ?_
   . intro w hSw;(try dsimp only at hSw);go_simp;(try simp);(try (simp only [IntKind.wrap_i64];omega))
   try simp only [Act.put,List.setIfInBounds_toArray,List.set_cons_zero,List.set_cons_succ]
   refine tk 18 39 ((.slice (some ⟨g,o+(a+16),none⟩) 4 (c-(a+16)))) rfl (Or.inl ⟨by rfl,?_⟩) ?_
   . intro w hSw;(try dsimp only at hSw);have f1: ¬ ((a:Int)+8<(a:Int)):=(by omega);have f2:(a:Int)+8<=(c:Int):=(by omega);have f3: ¬ c=a:=(by omega);have f4:(a:Int)+16<=(c:Int):=(by omega);have f5: ¬ ((a:Int)+16<(a:Int)+8):=(by omega);have f6: ¬ c=a+8:=(by omega);have f7:(a:Int)+20<=(c:Int):=(by omega);have f8: ¬ c=a+16:=(by omega);have f9: ¬ ((a:Int)+20<(a:Int)+16):=(by omega);have f10:((a:Int)+8-a).toNat=8:=(by omega);have f11:((a:Int)+16-(a+8)).toNat=8:=(by omega);have f12:((a:Int)+20-(a+16)).toNat=4:=(by omega);have f13:((a:Int)+8).toNat=a+8:=(by omega);have f14:((a:Int)+16).toNat=a+16:=(by omega);have f15:(0:Int)<=(a:Int)+8:=(by omega);have f16:(0:Int)<=(a:Int)+16:=(by omega);have f17:(0:Int)<=(a:Int)+20:=(by omega);have f18:((a:Int)+20).toNat=a+20:=(by omega);have f19:(a:Int)+8<=(a:Int)+16:=(by omega);have f20:(a:Int)+16<=(a:Int)+20:=(by omega);have f21:a+16-(a+8)=8:=(by omega);have f22:a+20-(a+16)=4:=(by omega);have f23:a+8-a=8:=(by omega);have f24: ¬ ((a:Int)+8<0):=(by omega);have f25: ¬ ((a:Int)+16<0):=(by omega);(try go_simp);(try simp [*])
   try simp only [Act.put,List.setIfInBounds_toArray,List.set_cons_zero,List.set_cons_succ]
   refine wpAnyH_ready (rs:=[5,22]) (by kernel_rfl) (by simp) ?_
   refine AllReadyH.cons (o:=⟨some 26,_,_,_,_,none⟩) rfl (fun K hK=> ?_) (AllReadyH.cons (o:=⟨some 6,_,_,_,_,none⟩) rfl (fun K hK=> ?_) AllReadyH.nil)
   . go_simp
     go_wp2_with (go_at_call 119;refine Calls.mono (HC1.out _ hHeld) ?_;rintro e w2 ⟨rfl,hu⟩)
     subst hu
     refine hK.out _ _ hHeld (fun hHeld2=> ?_)
     clear hK K hHeld
     have hHeld:=hHeld2
     clear hHeld2
     try simp only [Act.put,List.setIfInBounds_toArray,List.set_cons_zero,List.set_cons_succ]
     refine wpAnyH_ready (rs:=[12,22]) (by kernel_rfl) (by simp) ?_
     refine AllReadyH.cons (o:=⟨some 33,_,_,_,_,none⟩) rfl (fun K hK=> ?_) (AllReadyH.cons (o:=⟨some 6,_,_,_,_,none⟩) rfl (fun K hK=> ?_) AllReadyH.nil)
     . go_simp
       go_wp2_with (go_at_call 119;refine Calls.mono (HC2.out _ hHeld) ?_;rintro e w2 ⟨rfl,hu⟩)
       subst hu
       refine hK.out _ _ hHeld (fun hHeld2=> ?_)
       clear hK K hHeld
       have hHeld:=hHeld2
       clear hHeld2
       try simp only [Act.put,List.setIfInBounds_toArray,List.set_cons_zero,List.set_cons_succ]
       refine wpAnyH_ready (rs:=[19,22]) (by kernel_rfl) (by simp) ?_
       refine AllReadyH.cons (o:=⟨some 40,_,_,_,_,none⟩) rfl (fun K hK=> ?_) (AllReadyH.cons (o:=⟨some 6,_,_,_,_,none⟩) rfl (fun K hK=> ?_) AllReadyH.nil)
       . go_simp
         go_wp2_with (go_at_call 119;refine Calls.mono (HC3.out _ hHeld) ?_;rintro e w2 ⟨rfl,hu⟩)
         subst hu
         refine hK.out _ _ hHeld (fun hHeld2=> ?_)
         clear hK K hHeld
         have hHeld:=hHeld2
         clear hHeld2
         try simp only [Act.put,List.setIfInBounds_toArray,List.set_cons_zero,List.set_cons_succ]
         refine tk 20 41 ?_ rfl (Or.inl ⟨by rfl,?_⟩) ?_
         rotate_left
         . intro w hSw;(try dsimp only at hSw);go_simp;(try with_reducible rfl)
         try simp only [Act.put,List.setIfInBounds_toArray,List.set_cons_zero,List.set_cons_succ]
         refine tk 21 42 ?_ rfl (Or.inl ⟨by rfl,?_⟩) ?_
         rotate_left
         . intro w hSw;(try dsimp only at hSw);go_simp;(try with_reducible rfl)
         try simp only [Act.put,List.setIfInBounds_toArray,List.set_cons_zero,List.set_cons_succ]
         refine wpAnyH_ready (rs:=[22]) (by kernel_rfl) (by simp) ?_
         refine AllReadyH.cons (o:=⟨some 6,_,_,_,_,none⟩) rfl (fun K hK=> ?_) AllReadyH.nil
         have HS1:Hid (∀ i,i<20->(w2.alloc (.cells #[.int .u64 0,.int .u64 0,.int .u32 0] 160)).cell? ⟨g,o+a+i,none⟩=some (.int .u8 (B (a+i)))):=fun i hi=>by
          rw [World.cell?_alloc_past _ _ _ (Nat.lt_of_lt_of_le LG.out JU.out.2.size)];exact hHeld i hi
         have ZB:Hid (Blk (w2.alloc (.cells #[.int .u64 0,.int .u64 0,.int .u32 0] 160)) w2.heap.size [.int .u64 0,.int .u64 0,.int .u32 0] 160):=Blk.made w2 [.int .u64 0,.int .u64 0,.int .u32 0] 160
         have JV:Hid (OL 160 3 eA (w2.alloc (.cells #[.int .u64 0,.int .u64 0,.int .u32 0] 160)) w.heap.size u4 (areasL B k)/\Below w.heap.size w (w2.alloc (.cells #[.int .u64 0,.int .u64 0,.int .u32 0] 160))):=⟨row_below JU.out.1 (Go.Joins.below_alloc1 _ _),below_new JU.out.2 _⟩
         have RB:Hid (w.heap.size<=w2.heap.size/\(∀ g,u4.ownBlock=some g->g≠w2.heap.size)):=⟨JU.out.2.size,fun g e q=>by have:=(row_lt JU.out.1 g e).2;omega⟩
         go_simp
         refine hK.out _ _ HS1.out (fun hHeld2=> ?_)
         clear hK K hHeld JU HS1
         generalize w2.alloc (.cells #[.int .u64 0,.int .u64 0,.int .u32 0] 160)=w3 at hHeld2 ZB JV |-
         generalize w2.heap.size=b at RB ZB |-
         have hHeld:=hHeld2
         clear hHeld2
         try simp only [Act.put,List.setIfInBounds_toArray,List.set_cons_zero,List.set_cons_succ]
         refine wpAnyH_ready (rs:=[23]) (by kernel_rfl) (by simp) ?_
         refine AllReadyH.cons (o:=⟨none,.store 160 (.tmp 6) (.tmp 42),_,_,_,none⟩) rfl (fun K hK=> ?_) AllReadyH.nil
         refine wanted_mp rfl ?_
         have th:w3.there b 0 3:=Blk.there ZB.out
         refine wp_store_mid _ _ _ rfl b 0 #[.int .u64 X1,.int .u64 X2,.int .u32 X3] rfl rfl th (by kernel_rfl) (by simp [Value.oneCell']) ?_
         (try simp only [List.toList_toArray])
         have F1:Hid (Blk (w3.setCells b 0 [.int .u64 X1,.int .u64 X2,.int .u32 X3]) b [.int .u64 X1,.int .u64 X2,.int .u32 X3] 160/\OL 160 3 eA (w3.setCells b 0 [.int .u64 X1,.int .u64 X2,.int .u32 X3]) w.heap.size u4 (areasL B k)/\Below w.heap.size w (w3.setCells b 0 [.int .u64 X1,.int .u64 X2,.int .u32 X3])):=⟨((Blk.set ZB.out 0 (.int .u64 X1)).set 1 (.int .u64 X2)).set 2 (.int .u32 X3),row_keep JV.out.1 (fun g e=>blk_scs _ (RB.out.2 g e) _ _),((JV.out.2.setCell (p:=⟨b,0,none⟩) RB.out.1 _).setCell (p:=⟨b,1,none⟩) RB.out.1 _).setCell (p:=⟨b,2,none⟩) RB.out.1 _⟩
         have HS2:Hid (∀ i,i<20->(w3.setCells b 0 [.int .u64 X1,.int .u64 X2,.int .u32 X3]).cell? ⟨g,o+a+i,none⟩=some (.int .u8 (B (a+i)))):=fun i hi=>by
          rw [World.cell?_of_block (w:=w3) (blk_scs _ (fun (q:g=b)=>by have:=LG.out;have:=RB.out.1;omega) _ _)];exact hHeld i hi
         generalize w3.setCells b 0 [.int .u64 X1,.int .u64 X2,.int .u32 X3]=V at *
         refine hK.out _ _ HS2.out (fun hHeld2=> ?_)
         clear hK K hHeld th ZB JV RB HS2
         have hHeld:=hHeld2
         clear hHeld2
         try simp only [Act.put,List.setIfInBounds_toArray,List.set_cons_zero,List.set_cons_succ]
         clear hHeld
         refine wpAnyH_done (by kernel_rfl) ?_ _
         refine NoPanic.normal ?_
         go_wp2_with fail
         go_meet
         exact ⟨b,rfl,F1⟩
       . have HS1:Hid (∀ i,i<20->(w2.alloc (.cells #[.int .u64 0,.int .u64 0,.int .u32 0] 160)).cell? ⟨g,o+a+i,none⟩=some (.int .u8 (B (a+i)))):=fun i hi=>by
          rw [World.cell?_alloc_past _ _ _ (Nat.lt_of_lt_of_le LG.out JU.out.2.size)];exact hHeld i hi
         have ZB:Hid (Blk (w2.alloc (.cells #[.int .u64 0,.int .u64 0,.int .u32 0] 160)) w2.heap.size [.int .u64 0,.int .u64 0,.int .u32 0] 160):=Blk.made w2 [.int .u64 0,.int .u64 0,.int .u32 0] 160
         have JV:Hid (OL 160 3 eA (w2.alloc (.cells #[.int .u64 0,.int .u64 0,.int .u32 0] 160)) w.heap.size u4 (areasL B k)/\Below w.heap.size w (w2.alloc (.cells #[.int .u64 0,.int .u64 0,.int .u32 0] 160))):=⟨row_below JU.out.1 (Go.Joins.below_alloc1 _ _),below_new JU.out.2 _⟩
         have RB:Hid (w.heap.size<=w2.heap.size/\(∀ g,u4.ownBlock=some g->g≠w2.heap.size)):=⟨JU.out.2.size,fun g e q=>by have:=(row_lt JU.out.1 g e).2;omega⟩
         go_simp
         refine hK.out _ _ HS1.out (fun hHeld2=> ?_)
         clear hK K hHeld JU HS1
         generalize w2.alloc (.cells #[.int .u64 0,.int .u64 0,.int .u32 0] 160)=w3 at hHeld2 ZB JV |-
         generalize w2.heap.size=b at RB ZB |-
         have hHeld:=hHeld2
         clear hHeld2
         try simp only [Act.put,List.setIfInBounds_toArray,List.set_cons_zero,List.set_cons_succ]
         refine wpAnyH_ready (rs:=[19]) (by kernel_rfl) (by simp) ?_
         refine AllReadyH.cons (o:=⟨some 40,_,_,_,_,none⟩) rfl (fun K hK=> ?_) AllReadyH.nil
         go_simp
         go_wp2_with (go_at_call 119;refine Calls.mono (HC3.out _ hHeld) ?_;rintro e w2 ⟨rfl,hu⟩)
         subst hu
         refine hK.out _ _ hHeld (fun hHeld2=> ?_)
         clear hK K hHeld
         have hHeld:=hHeld2
         clear hHeld2
         try simp only [Act.put,List.setIfInBounds_toArray,List.set_cons_zero,List.set_cons_succ]
         refine tk 20 41 ?_ rfl (Or.inl ⟨by rfl,?_⟩) ?_
         rotate_left
         . intro w hSw;(try dsimp only at hSw);go_simp;(try with_reducible rfl)
         try simp only [Act.put,List.setIfInBounds_toArray,List.set_cons_zero,List.set_cons_succ]
         refine tk 21 42 ?_ rfl (Or.inl ⟨by rfl,?_⟩) ?_
         rotate_left
         . intro w hSw;(try dsimp only at hSw);go_simp;(try with_reducible rfl)
         try simp only [Act.put,List.setIfInBounds_toArray,List.set_cons_zero,List.set_cons_succ]
         refine wpAnyH_ready (rs:=[23]) (by kernel_rfl) (by simp) ?_
         refine AllReadyH.cons (o:=⟨none,.store 160 (.tmp 6) (.tmp 42),_,_,_,none⟩) rfl (fun K hK=> ?_) AllReadyH.nil
         refine wanted_mp rfl ?_
         have th:w2.there b 0 3:=Blk.there ZB.out
         refine wp_store_mid _ _ _ rfl b 0 #[.int .u64 X1,.int .u64 X2,.int .u32 X3] rfl rfl th (by kernel_rfl) (by simp [Value.oneCell']) ?_
         (try simp only [List.toList_toArray])
         have F1:Hid (Blk (w2.setCells b 0 [.int .u64 X1,.int .u64 X2,.int .u32 X3]) b [.int .u64 X1,.int .u64 X2,.int .u32 X3] 160/\OL 160 3 eA (w2.setCells b 0 [.int .u64 X1,.int .u64 X2,.int .u32 X3]) w.heap.size u4 (areasL B k)/\Below w.heap.size w (w2.setCells b 0 [.int .u64 X1,.int .u64 X2,.int .u32 X3])):=⟨((Blk.set ZB.out 0 (.int .u64 X1)).set 1 (.int .u64 X2)).set 2 (.int .u32 X3),row_keep JV.out.1 (fun g e=>blk_scs _ (RB.out.2 g e) _ _),((JV.out.2.setCell (p:=⟨b,0,none⟩) RB.out.1 _).setCell (p:=⟨b,1,none⟩) RB.out.1 _).setCell (p:=⟨b,2,none⟩) RB.out.1 _⟩
         have HS2:Hid (∀ i,i<20->(w2.setCells b 0 [.int .u64 X1,.int .u64 X2,.int .u32 X3]).cell? ⟨g,o+a+i,none⟩=some (.int .u8 (B (a+i)))):=fun i hi=>by
          rw [World.cell?_of_block (w:=w2) (blk_scs _ (fun (q:g=b)=>by have:=LG.out;have:=RB.out.1;omega) _ _)];exact hHeld i hi
         generalize w2.setCells b 0 [.int .u64 X1,.int .u64 X2,.int .u32 X3]=V at *
         refine hK.out _ _ HS2.out (fun hHeld2=> ?_)
         clear hK K hHeld th ZB JV RB HS2
         have hHeld:=hHeld2
         clear hHeld2
         try simp only [Act.put,List.setIfInBounds_toArray,List.set_cons_zero,List.set_cons_succ]
         clear hHeld
         refine wpAnyH_done (by kernel_rfl) ?_ _
         refine NoPanic.normal ?_
         go_wp2_with fail
         go_meet
         exact ⟨b,rfl,F1⟩
     . have HS1:Hid (∀ i,i<20->(w2.alloc (.cells #[.int .u64 0,.int .u64 0,.int .u32 0] 160)).cell? ⟨g,o+a+i,none⟩=some (.int .u8 (B (a+i)))):=fun i hi=>by
        rw [World.cell?_alloc_past _ _ _ (Nat.lt_of_lt_of_le LG.out JU.out.2.size)];exact hHeld i hi
       have ZB:Hid (Blk (w2.alloc (.cells #[.int .u64 0,.int .u64 0,.int .u32 0] 160)) w2.heap.size [.int .u64 0,.int .u64 0,.int .u32 0] 160):=Blk.made w2 [.int .u64 0,.int .u64 0,.int .u32 0] 160
       have JV:Hid (OL 160 3 eA (w2.alloc (.cells #[.int .u64 0,.int .u64 0,.int .u32 0] 160)) w.heap.size u4 (areasL B k)/\Below w.heap.size w (w2.alloc (.cells #[.int .u64 0,.int .u64 0,.int .u32 0] 160))):=⟨row_below JU.out.1 (Go.Joins.below_alloc1 _ _),below_new JU.out.2 _⟩
       have RB:Hid (w.heap.size<=w2.heap.size/\(∀ g,u4.ownBlock=some g->g≠w2.heap.size)):=⟨JU.out.2.size,fun g e q=>by have:=(row_lt JU.out.1 g e).2;omega⟩
       go_simp
       refine hK.out _ _ HS1.out (fun hHeld2=> ?_)
       clear hK K hHeld JU HS1
       generalize w2.alloc (.cells #[.int .u64 0,.int .u64 0,.int .u32 0] 160)=w3 at hHeld2 ZB JV |-
       generalize w2.heap.size=b at RB ZB |-
       have hHeld:=hHeld2
       clear hHeld2
       try simp only [Act.put,List.setIfInBounds_toArray,List.set_cons_zero,List.set_cons_succ]
       refine wpAnyH_ready (rs:=[12]) (by kernel_rfl) (by simp) ?_
       refine AllReadyH.cons (o:=⟨some 33,_,_,_,_,none⟩) rfl (fun K hK=> ?_) AllReadyH.nil
       go_simp
       go_wp2_with (go_at_call 119;refine Calls.mono (HC2.out _ hHeld) ?_;rintro e w2 ⟨rfl,hu⟩)
       subst hu
       refine hK.out _ _ hHeld (fun hHeld2=> ?_)
       clear hK K hHeld
       have hHeld:=hHeld2
       clear hHeld2
       try simp only [Act.put,List.setIfInBounds_toArray,List.set_cons_zero,List.set_cons_succ]
       refine wpAnyH_ready (rs:=[19]) (by kernel_rfl) (by simp) ?_
       refine AllReadyH.cons (o:=⟨some 40,_,_,_,_,none⟩) rfl (fun K hK=> ?_) AllReadyH.nil
       go_simp
       go_wp2_with (go_at_call 119;refine Calls.mono (HC3.out _ hHeld) ?_;rintro e w2 ⟨rfl,hu⟩)
       subst hu
       refine hK.out _ _ hHeld (fun hHeld2=> ?_)
       clear hK K hHeld
       have hHeld:=hHeld2
       clear hHeld2
       try simp only [Act.put,List.setIfInBounds_toArray,List.set_cons_zero,List.set_cons_succ]
       refine tk 20 41 ?_ rfl (Or.inl ⟨by rfl,?_⟩) ?_
       rotate_left
       . intro w hSw;(try dsimp only at hSw);go_simp;(try with_reducible rfl)
       try simp only [Act.put,List.setIfInBounds_toArray,List.set_cons_zero,List.set_cons_succ]
       refine tk 21 42 ?_ rfl (Or.inl ⟨by rfl,?_⟩) ?_
       rotate_left
       . intro w hSw;(try dsimp only at hSw);go_simp;(try with_reducible rfl)
       try simp only [Act.put,List.setIfInBounds_toArray,List.set_cons_zero,List.set_cons_succ]
       refine wpAnyH_ready (rs:=[23]) (by kernel_rfl) (by simp) ?_
       refine AllReadyH.cons (o:=⟨none,.store 160 (.tmp 6) (.tmp 42),_,_,_,none⟩) rfl (fun K hK=> ?_) AllReadyH.nil
       refine wanted_mp rfl ?_
       have th:w2.there b 0 3:=Blk.there ZB.out
       refine wp_store_mid _ _ _ rfl b 0 #[.int .u64 X1,.int .u64 X2,.int .u32 X3] rfl rfl th (by kernel_rfl) (by simp [Value.oneCell']) ?_
       (try simp only [List.toList_toArray])
       have F1:Hid (Blk (w2.setCells b 0 [.int .u64 X1,.int .u64 X2,.int .u32 X3]) b [.int .u64 X1,.int .u64 X2,.int .u32 X3] 160/\OL 160 3 eA (w2.setCells b 0 [.int .u64 X1,.int .u64 X2,.int .u32 X3]) w.heap.size u4 (areasL B k)/\Below w.heap.size w (w2.setCells b 0 [.int .u64 X1,.int .u64 X2,.int .u32 X3])):=⟨((Blk.set ZB.out 0 (.int .u64 X1)).set 1 (.int .u64 X2)).set 2 (.int .u32 X3),row_keep JV.out.1 (fun g e=>blk_scs _ (RB.out.2 g e) _ _),((JV.out.2.setCell (p:=⟨b,0,none⟩) RB.out.1 _).setCell (p:=⟨b,1,none⟩) RB.out.1 _).setCell (p:=⟨b,2,none⟩) RB.out.1 _⟩
       have HS2:Hid (∀ i,i<20->(w2.setCells b 0 [.int .u64 X1,.int .u64 X2,.int .u32 X3]).cell? ⟨g,o+a+i,none⟩=some (.int .u8 (B (a+i)))):=fun i hi=>by
        rw [World.cell?_of_block (w:=w2) (blk_scs _ (fun (q:g=b)=>by have:=LG.out;have:=RB.out.1;omega) _ _)];exact hHeld i hi
       generalize w2.setCells b 0 [.int .u64 X1,.int .u64 X2,.int .u32 X3]=V at *
       refine hK.out _ _ HS2.out (fun hHeld2=> ?_)
       clear hK K hHeld th ZB JV RB HS2
       have hHeld:=hHeld2
       clear hHeld2
       try simp only [Act.put,List.setIfInBounds_toArray,List.set_cons_zero,List.set_cons_succ]
       clear hHeld
       refine wpAnyH_done (by kernel_rfl) ?_ _
       refine NoPanic.normal ?_
       go_wp2_with fail
       go_meet
       exact ⟨b,rfl,F1⟩
   . have HS1:Hid (∀ i,i<20->(U.alloc (.cells #[.int .u64 0,.int .u64 0,.int .u32 0] 160)).cell? ⟨g,o+a+i,none⟩=some (.int .u8 (B (a+i)))):=fun i hi=>by
      rw [World.cell?_alloc_past _ _ _ (Nat.lt_of_lt_of_le LG.out JU.out.2.size)];exact hHeld i hi
     have ZB:Hid (Blk (U.alloc (.cells #[.int .u64 0,.int .u64 0,.int .u32 0] 160)) U.heap.size [.int .u64 0,.int .u64 0,.int .u32 0] 160):=Blk.made U [.int .u64 0,.int .u64 0,.int .u32 0] 160
     have JV:Hid (OL 160 3 eA (U.alloc (.cells #[.int .u64 0,.int .u64 0,.int .u32 0] 160)) w.heap.size u4 (areasL B k)/\Below w.heap.size w (U.alloc (.cells #[.int .u64 0,.int .u64 0,.int .u32 0] 160))):=⟨row_below JU.out.1 (Go.Joins.below_alloc1 _ _),below_new JU.out.2 _⟩
     have RB:Hid (w.heap.size<=U.heap.size/\(∀ g,u4.ownBlock=some g->g≠U.heap.size)):=⟨JU.out.2.size,fun g e q=>by have:=(row_lt JU.out.1 g e).2;omega⟩
     go_simp
     refine hK.out _ _ HS1.out (fun hHeld2=> ?_)
     clear hK K hHeld JU HS1
     generalize U.alloc (.cells #[.int .u64 0,.int .u64 0,.int .u32 0] 160)=w3 at hHeld2 ZB JV |-
     generalize U.heap.size=b at RB ZB |-
     have hHeld:=hHeld2
     clear hHeld2
     try simp only [Act.put,List.setIfInBounds_toArray,List.set_cons_zero,List.set_cons_succ]
     refine wpAnyH_ready (rs:=[5]) (by kernel_rfl) (by simp) ?_
     refine AllReadyH.cons (o:=⟨some 26,_,_,_,_,none⟩) rfl (fun K hK=> ?_) AllReadyH.nil
     go_simp
     go_wp2_with (go_at_call 119;refine Calls.mono (HC1.out _ hHeld) ?_;rintro e w2 ⟨rfl,hu⟩)
     subst hu
     refine hK.out _ _ hHeld (fun hHeld2=> ?_)
     clear hK K hHeld
     have hHeld:=hHeld2
     clear hHeld2
     try simp only [Act.put,List.setIfInBounds_toArray,List.set_cons_zero,List.set_cons_succ]
     refine wpAnyH_ready (rs:=[12]) (by kernel_rfl) (by simp) ?_
     refine AllReadyH.cons (o:=⟨some 33,_,_,_,_,none⟩) rfl (fun K hK=> ?_) AllReadyH.nil
     go_simp
     go_wp2_with (go_at_call 119;refine Calls.mono (HC2.out _ hHeld) ?_;rintro e w2 ⟨rfl,hu⟩)
     subst hu
     refine hK.out _ _ hHeld (fun hHeld2=> ?_)
     clear hK K hHeld
     have hHeld:=hHeld2
     clear hHeld2
     try simp only [Act.put,List.setIfInBounds_toArray,List.set_cons_zero,List.set_cons_succ]
     refine wpAnyH_ready (rs:=[19]) (by kernel_rfl) (by simp) ?_
     refine AllReadyH.cons (o:=⟨some 40,_,_,_,_,none⟩) rfl (fun K hK=> ?_) AllReadyH.nil
     go_simp
     go_wp2_with (go_at_call 119;refine Calls.mono (HC3.out _ hHeld) ?_;rintro e w2 ⟨rfl,hu⟩)
     subst hu
     refine hK.out _ _ hHeld (fun hHeld2=> ?_)
     clear hK K hHeld
     have hHeld:=hHeld2
     clear hHeld2
     try simp only [Act.put,List.setIfInBounds_toArray,List.set_cons_zero,List.set_cons_succ]
     refine tk 20 41 ?_ rfl (Or.inl ⟨by rfl,?_⟩) ?_
     rotate_left
     . intro w hSw;(try dsimp only at hSw);go_simp;(try with_reducible rfl)
     try simp only [Act.put,List.setIfInBounds_toArray,List.set_cons_zero,List.set_cons_succ]
     refine tk 21 42 ?_ rfl (Or.inl ⟨by rfl,?_⟩) ?_
     rotate_left
     . intro w hSw;(try dsimp only at hSw);go_simp;(try with_reducible rfl)
     try simp only [Act.put,List.setIfInBounds_toArray,List.set_cons_zero,List.set_cons_succ]
     refine wpAnyH_ready (rs:=[23]) (by kernel_rfl) (by simp) ?_
     refine AllReadyH.cons (o:=⟨none,.store 160 (.tmp 6) (.tmp 42),_,_,_,none⟩) rfl (fun K hK=> ?_) AllReadyH.nil
     refine wanted_mp rfl ?_
     have th:w2.there b 0 3:=Blk.there ZB.out
     refine wp_store_mid _ _ _ rfl b 0 #[.int .u64 X1,.int .u64 X2,.int .u32 X3] rfl rfl th (by kernel_rfl) (by simp [Value.oneCell']) ?_
     (try simp only [List.toList_toArray])
     have F1:Hid (Blk (w2.setCells b 0 [.int .u64 X1,.int .u64 X2,.int .u32 X3]) b [.int .u64 X1,.int .u64 X2,.int .u32 X3] 160/\OL 160 3 eA (w2.setCells b 0 [.int .u64 X1,.int .u64 X2,.int .u32 X3]) w.heap.size u4 (areasL B k)/\Below w.heap.size w (w2.setCells b 0 [.int .u64 X1,.int .u64 X2,.int .u32 X3])):=⟨((Blk.set ZB.out 0 (.int .u64 X1)).set 1 (.int .u64 X2)).set 2 (.int .u32 X3),row_keep JV.out.1 (fun g e=>blk_scs _ (RB.out.2 g e) _ _),((JV.out.2.setCell (p:=⟨b,0,none⟩) RB.out.1 _).setCell (p:=⟨b,1,none⟩) RB.out.1 _).setCell (p:=⟨b,2,none⟩) RB.out.1 _⟩
     have HS2:Hid (∀ i,i<20->(w2.setCells b 0 [.int .u64 X1,.int .u64 X2,.int .u32 X3]).cell? ⟨g,o+a+i,none⟩=some (.int .u8 (B (a+i)))):=fun i hi=>by
      rw [World.cell?_of_block (w:=w2) (blk_scs _ (fun (q:g=b)=>by have:=LG.out;have:=RB.out.1;omega) _ _)];exact hHeld i hi
     generalize w2.setCells b 0 [.int .u64 X1,.int .u64 X2,.int .u32 X3]=V at *
     refine hK.out _ _ HS2.out (fun hHeld2=> ?_)
     clear hK K hHeld th ZB JV RB HS2
     have hHeld:=hHeld2
     clear hHeld2
     try simp only [Act.put,List.setIfInBounds_toArray,List.set_cons_zero,List.set_cons_succ]
     clear hHeld
     refine wpAnyH_done (by kernel_rfl) ?_ _
     refine NoPanic.normal ?_
     go_wp2_with fail
     go_meet
     exact ⟨b,rfl,F1⟩
  obtain ⟨b,rfl,F1⟩:=hcut
  generalize wc=V at F1 |-
  obtain ⟨z0,z1,z2⟩:V.cell? ⟨b,0,none⟩=some (.int .u64 X1)/\V.cell? ⟨b,1,none⟩=some (.int .u64 X2)/\V.cell? ⟨b,2,none⟩=some (.int .u32 X3):=⟨F1.out.1.cell 0,F1.out.1.cell 1,F1.out.1.cell 2⟩
  have w2':IntKind.u64.wrap (18446744073709551615-X2)=18446744073709551615-X2:=by rw [IntKind.wrap_u64,Int.emod_eq_of_lt (by omega) (by omega)]
  by_cases cf:X1+X2<18446744073709551616
  rotate_left
  . have g1:decide (0<X2)=true:=decide_eq_true (by omega)
    have g2:decide (18446744073709551615-X2<X1)=true:=decide_eq_true (by omega)
    have NF:Hid (¬ Fit ⟨X1,X2,X3⟩):=fun h=>cf (HFI.out.1 h)
    go_wp2_with fail
    go_returns
    exact ⟨Or.inr ⟨rfl,_,IN.out,NF.out⟩,F1.out.2.2⟩
  . have g2:decide (18446744073709551615-X2<X1)=false:=decide_eq_false (by omega)
    obtain ⟨v',W2,r,ho,hg,hat⟩:=app_row eA_len eA_one (by decide) Tryz.underlying154 infoQ rfl (by decide) w.heap.size u4 (areasL B k) ⟨X1,X2,X3⟩ (by rw [areas_len];omega) V F1.out.2.1 F1.out.2.2.size
    have N1:Hid (OL 160 3 eA W2 w.heap.size v' (areasL B (k+1))/\Below w.heap.size w W2):=⟨by rw [NX.out];exact ho,(below_new F1.out.2.2 _).grown hg (by rw [World.size_alloc];have:=F1.out.2.2.size;omega) (fun g e=>(row_lt F1.out.2.1 g e).1)⟩
    have N2:Hid (∀ x∈areasL B (k+1),Fit x):=fun x hx=>by
     rw [NX.out] at hx
     rcases List.mem_append.1 hx with h | h
     . exact JF.out x h
     . rw [List.mem_singleton.1 h];exact HFI.out.2 cf
    clear ho hg hat F1 JF IN HFI
    by_cases c0:0<X2
    . have g1:decide (0<X2)=true:=decide_eq_true c0
      go_wp2_with (at_builtin;refine wpList_app rfl _ _ 154 rfl u4 (.slice (some ⟨V.heap.size,0,none⟩) 1 1) rfl rfl v' W2 r ?_)
      go_roundw
      case rel=>exact ⟨k+1,a+20,by omega,by have:=AN.out;show _=_;omega,by go_num,N1,N2⟩
      case measure=>simp [Go.RowKit.intOf];omega
    . have g1:decide (0<X2)=false:=decide_eq_false c0
      go_wp2_with (at_builtin;refine wpList_app rfl _ _ 154 rfl u4 (.slice (some ⟨V.heap.size,0,none⟩) 1 1) rfl rfl v' W2 r ?_)
      go_roundw
      case rel=>exact ⟨k+1,a+20,by omega,by have:=AN.out;show _=_;omega,by go_num,N1,N2⟩
      case measure=>simp [Go.RowKit.intOf];omega
theorem rparse_any (g o n c:Nat) (B:Nat->Int) (hB: ∀ i,0<=B i/\B i<256) (hc:n<=c) (w:World) (lg:g<w.heap.size) (hcs: ∀ i,i<n->w.cell? ⟨g,o+i,none⟩=some (.int .u8 (B i))) :
 Calls Tryz.prog 72 #[.slice (some ⟨g,o,none⟩) n c] w fun e w'=> ∃ v' z A,e=.returned (.tuple #[v',.int .i64 z])/\LL 3 eA w' w.heap.size v' A/\PZ B n z A/\Below w.heap.size w w':=by
 by_cases h1:1280<n
 . refine (rparse_big (some ⟨g,o,none⟩) n c h1 w).mono ?_
   rintro e w' ⟨rfl,hb⟩
   exact ⟨_,4,[],rfl,ll_nil _ _ _ _,Or.inl ⟨h1,rfl,rfl⟩,hb⟩
 . by_cases h2:n % 20≠0
   . refine (rparse_end (some ⟨g,o,none⟩) n c (by omega) h2 w).mono ?_
     rintro e w' ⟨rfl,hb⟩
     exact ⟨_,14,[],rfl,ll_nil _ _ _ _,Or.inr (Or.inl ⟨by omega,h2,rfl,rfl⟩),hb⟩
   . refine (rparse_loop g o (n / 20) n c B hB (by omega) (by omega) hc w lg hcs).mono ?_
     rintro e w' ⟨⟨v',rfl,ho,hf⟩ | ⟨rfl,hx⟩,hb⟩
     . exact ⟨v',0,_,rfl,ol_ll eA_len ho,Or.inr (Or.inr (Or.inr ⟨by omega,by omega,hf,rfl,rfl⟩)),hb⟩
     . exact ⟨_,3,[],rfl,ll_nil _ _ _ _,Or.inr (Or.inr (Or.inl ⟨by omega,by omega,hx,rfl,rfl⟩)),hb⟩
end Go.Proofs.YthmobfelhpbllaaGreatDoor.Bm
namespace Go.Proofs.YthmobfelhpbllaaGreatDoor.Bm
open Go.ChangeShapes Go.WideShapes Go.ChangeAt Go.RowKit Go.Maps
set_option linter.unusedSimpArgs false
set_option linter.unusedVariables false
set_option maxRecDepth 8000
theorem and4095 (f:Int) (f0:0<=f) (f1:f<18446744073709551616):bits .and .u64 f 4095=f % 4096:=by
 rw [u64_and _ _ f0 f1 (by omega) (by omega)]
 rw [show (4095:Int).toNat=2 ^ 12-1 from rfl,Nat.and_two_pow_sub_one_eq_mod]
 omega
set_option maxHeartbeats 1000000 in
theorem rwhole_any (f l k F:Int) (f0:0<=f) (l0:0<=l) (hs:f+l<18446744073709551616) (F0:0<=F) (F1:F<=1048576) (a b:Int) (ha:a=min ((f+4095) / 4096) F) (hb:b=min ((f+l) / 4096) F) (w:World):Calls Tryz.prog 73 #[.agg #[.int .u64 f,.int .u64 l,.int .u32 k],.int .u64 F] w fun e w'=>e=.returned (.agg #[.int .i64 a,.int .i64 b])/\Below w.heap.size w w':=by
 have an:=and4095 f f0 (by omega)
 have u1:IntKind.u64.wrap (f+l)=f+l:=by rw [IntKind.wrap_u64,Int.emod_eq_of_lt (by omega) (by omega)]
 go_enter Tryz.func73,Tryz.ntmps73
 by_cases c:f % 4096=0
 . have d1:decide (0<f % 4096)=false:=decide_eq_false (by omega)
   go_wp2_with fail
   have e1:min (f / 4096) F=a:=by rw [ha];congr 1;omega
   exact bodyPost_ret (v:=.agg #[.int .i64 (min (f / 4096) F),.int .i64 (min ((f+l) / 4096) F)]) (by simp [results,Tryz.results73,go_sem]) rfl ⟨by rw [e1,hb],below_new (Go.Joins.below_alloc1 _ _) _⟩
 . have d1:decide (0<f % 4096)=true:=decide_eq_true (by omega)
   have u2:IntKind.u64.wrap (f / 4096+1)=f / 4096+1:=by rw [IntKind.wrap_u64,Int.emod_eq_of_lt (by omega) (by omega)]
   go_wp2_with fail
   have e1:min (f / 4096+1) F=a:=by rw [ha];congr 1;omega
   exact bodyPost_ret (v:=.agg #[.int .i64 (min (f / 4096+1) F),.int .i64 (min ((f+l) / 4096) F)]) (by simp [results,Tryz.results73,go_sem]) rfl ⟨by rw [e1,hb],below_new (Go.Joins.below_alloc1 _ _) _⟩
set_option maxHeartbeats 1000000 in
theorem rtouched_any (f l k F:Int) (f0:0<=f) (l0:0<l) (hs:f+l<18446744073709551616) (F0:0<=F) (F1:F<=1048576) (a b:Int) (ha:a=min (f / 4096) F) (hb:b=min ((f+l-1) / 4096+1) F) (w:World):Calls Tryz.prog 74 #[.agg #[.int .u64 f,.int .u64 l,.int .u32 k],.int .u64 F] w fun e w'=>e=.returned (.agg #[.int .i64 a,.int .i64 b])/\Below w.heap.size w w':=by
 have n0:(l==0)=false:=by simp;omega
 have n1: ¬ l=0:=by omega
 have u1:IntKind.u64.wrap (f+l)=f+l:=by rw [IntKind.wrap_u64,Int.emod_eq_of_lt (by omega) (by omega)]
 have u2:IntKind.u64.wrap (f+l-1)=f+l-1:=by rw [IntKind.wrap_u64,Int.emod_eq_of_lt (by omega) (by omega)]
 have u3:IntKind.u64.wrap ((f+l-1) / 4096+1)=(f+l-1) / 4096+1:=by rw [IntKind.wrap_u64,Int.emod_eq_of_lt (by omega) (by omega)]
 go_enter Tryz.func74,Tryz.ntmps74
 go_wp2_with fail
 exact bodyPost_ret (v:=.agg #[.int .i64 (min (f / 4096) F),.int .i64 (min ((f+l-1) / 4096+1) F)]) (by simp [results,Tryz.results74,go_sem]) rfl ⟨by rw [ha,hb],below_new (Go.Joins.below_alloc1 _ _) _⟩
theorem rtouched_none (f k F:Int) (w:World):Calls Tryz.prog 74 #[.agg #[.int .u64 f,.int .u64 0,.int .u32 k],.int .u64 F] w fun e w'=>e=.returned (.agg #[.int .i64 0,.int .i64 0])/\Below w.heap.size w w':=by
 go_enter Tryz.func74,Tryz.ntmps74
 go_wp2_with fail
 exact bodyPost_ret (v:=.agg #[.int .i64 0,.int .i64 0]) (by simp [results,Tryz.results74,go_sem]) rfl ⟨rfl,below_new (Go.Joins.below_alloc1 _ _) _⟩
def ruseR (F:Int) (x:Ar):Int × Int:=(min ((x.f+4095) / 4096) F,min ((x.f+x.l) / 4096) F)
def rtchR (F:Int) (x:Ar):Int × Int:=if x.l=0 then (0,0) else (min (x.f / 4096) F,min ((x.f+x.l-1) / 4096+1) F)
def ruseL (F:Int) (A:List Ar):List (Int × Int):=(A.filter (fun x=>decide (x.k=1))).map (ruseR F)
def rawayL (F:Int) (k:Int × Int) (A:List Ar):List (Int × Int):=k::(A.filter (fun x=>decide (x.k≠1))).map (rtchR F)
theorem ruse_len (F:Int) (A:List Ar):(ruseL F A).length<=A.length:=by unfold ruseL;rw [List.length_map];exact List.length_filter_le _ _
theorem raway_len (F:Int) (k:Int × Int) (A:List Ar):(rawayL F k A).length<=A.length+1:=by
 have:=List.length_filter_le (fun x:Ar=>decide (x.k≠1)) A
 unfold rawayL;rw [List.length_cons,List.length_map];omega
theorem ruse_yes {F:Int} {A:List Ar} {i:Nat} (h:i<A.length) (hk:A[i].k=1):ruseL F (A.take (i+1))=ruseL F (A.take i)++[ruseR F A[i]]:=by
 unfold ruseL;rw [take_next A i h,List.filter_append];simp [List.filter_cons,hk]
theorem ruse_no {F:Int} {A:List Ar} {i:Nat} (h:i<A.length) (hk:A[i].k≠1):ruseL F (A.take (i+1))=ruseL F (A.take i):=by
 unfold ruseL;rw [take_next A i h,List.filter_append];simp [List.filter_cons,hk]
theorem raway_yes {F:Int} {k:Int × Int} {A:List Ar} {i:Nat} (h:i<A.length) (hk:A[i].k≠1):rawayL F k (A.take (i+1))=rawayL F k (A.take i)++[rtchR F A[i]]:=by
 unfold rawayL;rw [take_next A i h,List.filter_append];simp [List.filter_cons,hk]
theorem raway_no {F:Int} {k:Int × Int} {A:List Ar} {i:Nat} (h:i<A.length) (hk:A[i].k=1):rawayL F k (A.take (i+1))=rawayL F k (A.take i):=by
 unfold rawayL;rw [take_next A i h,List.filter_append];simp [List.filter_cons,hk]
theorem has_map_same {f g:Ar->Int × Int} {n:Int} (h: ∀ x,((f x).1<=n/\n<(f x).2)↔((g x).1<=n/\n<(g x).2)) (A:List Ar):Has (A.map f) n↔Has (A.map g) n:=by
 constructor
 . rintro ⟨r,hr,q⟩
   obtain ⟨x,hx,rfl⟩:=List.mem_map.1 hr
   exact ⟨g x,List.mem_map.2 ⟨x,hx,rfl⟩,(h x).1 q⟩
 . rintro ⟨r,hr,q⟩
   obtain ⟨x,hx,rfl⟩:=List.mem_map.1 hr
   exact ⟨f x,List.mem_map.2 ⟨x,hx,rfl⟩,(h x).2 q⟩
theorem clip_any (F:Int) (k:Int × Int) (A:List Ar) (n:Int):(Has (ruseL F A) n/\ ¬ Has (rawayL F k A) n)↔FR F k A n:=by
 have h1:Has (ruseL F A) n↔Has (useL F A) n:=by
  unfold ruseL useL
  refine has_map_same (fun x=> ?_) _
  show (min ((x.f+4095) / 4096) F<=n/\n<min ((x.f+x.l) / 4096) F)↔((x.f+4095) / 4096<=n/\n<min ((x.f+x.l) / 4096) F)
  omega
 by_cases c:n<F
 . have h2:Has (rawayL F k A) n↔Has (awayL k A) n:=by
    unfold rawayL awayL
    rw [has_cons,has_cons]
    have:Has ((A.filter (fun x=>decide (x.k≠1))).map (rtchR F)) n↔Has ((A.filter (fun x=>decide (x.k≠1))).map tchR) n:=by
     refine has_map_same (fun x=> ?_) _
     unfold rtchR tchR
     by_cases l0:x.l=0
     . rw [if_pos l0,if_pos l0]
     . rw [if_neg l0,if_neg l0]
       show (min (x.f / 4096) F<=n/\n<min ((x.f+x.l-1) / 4096+1) F)↔(x.f / 4096<=n/\n<(x.f+x.l-1) / 4096+1)
       omega
    rw [this]
   unfold FR
   rw [h1,h2]
 . have no: ¬ Has (useL F A) n:=fun ⟨r,hr,q1,q2⟩=>by
    unfold useL at hr
    obtain ⟨x,hx,rfl⟩:=List.mem_map.1 hr
    have q3:n<min ((x.f+x.l) / 4096) F:=q2
    omega
   unfold FR
   rw [h1]
   exact ⟨fun h=>absurd h.1 no,fun h=>absurd h.1 no⟩
end Go.Proofs.YthmobfelhpbllaaGreatDoor.Bm
namespace Go.Proofs.YthmobfelhpbllaaGreatDoor.Bm
open Go.ChangeShapes Go.WideShapes Go.ChangeAt Go.RowKit Go.Maps
set_option linter.unusedSimpArgs false
set_option linter.unusedVariables false
set_option maxRecDepth 8000
theorem rframes_bad (v:Value) (F k1 k2:Int) (h: ¬ Good F (k1,k2)) (w:World):Calls Tryz.prog 27 #[v,.int .i64 F,.agg #[.int .i64 k1,.int .i64 k2]] w fun e w'=>e=.returned (.tuple #[.slice none 0 0,.int .i64 1])/\Below w.heap.size w w':=by
 by_cases c1:F<1
 . have d1:decide (F<1)=true:=decide_eq_true c1
   go_enter Tryz.func27,Tryz.ntmps27
   go_wp2_with fail
   go_returns
   exact ⟨rfl,Go.Joins.below_alloc1 _ _⟩
 have d1:decide (F<1)=false:=decide_eq_false c1
 by_cases c2:1048576<F
 . have d2:decide (1048576<F)=true:=decide_eq_true c2
   go_enter Tryz.func27,Tryz.ntmps27
   go_wp2_with fail
   go_returns
   exact ⟨rfl,Go.Joins.below_alloc1 _ _⟩
 have d2:decide (1048576<F)=false:=decide_eq_false c2
 by_cases c3:k1<0
 . have d3:decide (k1<0)=true:=decide_eq_true c3
   go_enter Tryz.func27,Tryz.ntmps27
   go_wp2_with fail
   go_returns
   exact ⟨rfl,Go.Joins.below_alloc1 _ _⟩
 have d3:decide (k1<0)=false:=decide_eq_false c3
 by_cases c4:k2<k1
 . have d4:decide (k2<k1)=true:=decide_eq_true c4
   go_enter Tryz.func27,Tryz.ntmps27
   go_wp2_with fail
   go_returns
   exact ⟨rfl,Go.Joins.below_alloc1 _ _⟩
 have d4:decide (k2<k1)=false:=decide_eq_false c4
 by_cases c5:F<k2
 . have d5:decide (F<k2)=true:=decide_eq_true c5
   go_enter Tryz.func27,Tryz.ntmps27
   go_wp2_with fail
   go_returns
   exact ⟨rfl,Go.Joins.below_alloc1 _ _⟩
 exact absurd (show Good F (k1,k2) from ⟨by omega,by omega,by show 0<=k1;omega,by show k1<=k2;omega,by show k2<=F;omega⟩) h
theorem tw_a (w1 U:World) (hb:Below w1.heap.size w1 U) (k1 k2:Int):TW w1 (.slice (some ⟨U.heap.size,0,none⟩) 0 0) (.slice (some ⟨U.heap.size+1,0,none⟩) 1 1) [] [(k1,k2)] ((U.alloc (.cells #[] 56)).alloc (.cells #[.int .i64 k1,.int .i64 k2] 56)):=by
 refine ⟨row_below (ol_made U _ hb.size) (Go.Joins.below_alloc1 _ _),?_,fun g e h=> ?_,below_new (below_new hb _) _⟩
 . have:=ol_one (T:=56) eR_len (U.alloc (.cells #[] 56)) w1.heap.size (by rw [World.size_alloc];have:=hb.size;omega) (k1,k2)
   rw [World.size_alloc] at this;exact this
 . cases e;have:=Option.some.inj h;exact absurd this (by show ¬ U.heap.size+1=U.heap.size;omega)
theorem tw_b (w1 U:World) (hb:Below w1.heap.size w1 U) (k1 k2:Int):TW w1 (.slice (some ⟨U.heap.size+1,0,none⟩) 0 0) (.slice (some ⟨U.heap.size,0,none⟩) 1 1) [] [(k1,k2)] ((U.alloc (.cells #[.int .i64 k1,.int .i64 k2] 56)).alloc (.cells #[] 56)):=by
 refine ⟨?_,row_below (ol_one (T:=56) eR_len U w1.heap.size hb.size (k1,k2)) (Go.Joins.below_alloc1 _ _),fun g e h=> ?_,below_new (below_new hb _) _⟩
 . have:=ol_made (T:=56) (k:=2) (enc:=eR) (U.alloc (.cells #[.int .i64 k1,.int .i64 k2] 56)) w1.heap.size (by rw [World.size_alloc];have:=hb.size;omega)
   rw [World.size_alloc] at this;exact this
 . cases e;have:=Option.some.inj h;exact absurd this (by show ¬ U.heap.size=U.heap.size+1;omega)
set_option maxHeartbeats 4000000 in
theorem rframes_any (g o n c:Nat) (B:Nat->Int) (hB: ∀ i,0<=B i/\B i<256) (hc:n<=c) (F k1 k2:Int) (w:World) (lg:g<w.heap.size) (hcs: ∀ i,i<n->w.cell? ⟨g,o+i,none⟩=some (.int .u8 (B i))) :
 Calls Tryz.prog 27 #[.slice (some ⟨g,o,none⟩) n c,.int .i64 F,.agg #[.int .i64 k1,.int .i64 k2]] w fun e w'=> ∃ v' z M,e=.returned (.tuple #[v',.int .i64 z])/\RL w' w.heap.size v' M/\FZ B n F (k1,k2) z M/\M.length<=5000/\Below w.heap.size w w':=by
 by_cases hG:Good F (k1,k2)
 rotate_left
 . refine (rframes_bad _ F k1 k2 hG w).mono ?_
   rintro e w' ⟨rfl,hb⟩
   exact ⟨_,1,[],rfl,ll_nil _ _ _ _,Or.inl ⟨hG,rfl,rfl⟩,by simp,hb⟩
 have HG:Hid (Good F (k1,k2)):=hG
 obtain ⟨g1,g2,g3,g4,g5⟩:=hG
 simp only at g3 g4 g5
 have d1:decide (F<1)=false:=decide_eq_false (by omega)
 have d2:decide (1048576<F)=false:=decide_eq_false (by omega)
 have d3:decide (k1<0)=false:=decide_eq_false (by omega)
 have d4:decide (k2<k1)=false:=decide_eq_false (by omega)
 have d5:decide (F<k2)=false:=decide_eq_false (by omega)
 have b0:Below w.heap.size w (w.alloc (.cells #[.int .i64 k1,.int .i64 k2] 56)):=Go.Joins.below_alloc1 _ _
 have PC:Hid _:=rparse_any g o n c B hB hc (w.alloc (.cells #[.int .i64 k1,.int .i64 k2] 56)) (Nat.lt_of_lt_of_le lg b0.size) (fun i hi=>(b0.cell (p:=⟨g,o+i,none⟩) lg).trans (hcs i hi))
 have HWF:Hid (∀ x∈areasL B (n / 20),x.wf):=areas_wf hB _
 have HB0:Hid (Below w.heap.size w (w.alloc (.cells #[.int .i64 k1,.int .i64 k2] 56))/\(w.alloc (.cells #[.int .i64 k1,.int .i64 k2] 56)).heap.size=w.heap.size+1/\Blk (w.alloc (.cells #[.int .i64 k1,.int .i64 k2] 56)) w.heap.size [.int .i64 k1,.int .i64 k2] 56):=⟨b0,World.size_alloc _ _,Blk.made w [.int .i64 k1,.int .i64 k2] 56⟩
 clear hB hcs b0
 go_enter Tryz.func27,Tryz.ntmps27
 go_wp2_with fail
 refine Calls.mono PC.out ?_
 rintro e w1 ⟨v8,z,A,rfl,R8,pz,B1⟩
 have H8:Hid (LL 3 eA w1 w.heap.size v8 A):=R8.low (by have:=HB0.out.2.1;omega)
 have HPZ:Hid (PZ B n z A):=pz
 have HB1:Hid (Below w.heap.size w w1):=HB0.out.1.trans (B1.mono (by have:=HB0.out.2.1;omega))
 have q1:w1.cell? ⟨w.heap.size,0,none⟩=some (.int .i64 k1):=(HB0.out.2.2.below B1).cell 0
 have q2:w1.cell? ⟨w.heap.size,1,none⟩=some (.int .i64 k2):=(HB0.out.2.2.below B1).cell 1
 clear R8 pz B1 PC HB0
 by_cases cz:z=0
 rotate_left
 . have e1:(z != 0)=true:=by simp [cz]
   have HZ:Hid (z≠0):=cz
   go_wp2_with fail
   go_returns
   exact ⟨_,_,_,rfl,ll_nil _ _ _ _,Or.inr (Or.inl ⟨HG.out,z,A,HPZ.out,HZ.out,rfl,rfl⟩),by simp,HB1.out⟩
 subst cz
 have HA:Hid (A.length<=64/\ ∀ x∈A,x.wf/\x.f+x.l<18446744073709551616):=by
  obtain ⟨n1,n2,n3,n4⟩:=HPZ.out.ok
  refine ⟨by rw [n4,areas_len];omega,fun x hx=> ?_⟩
  have hw:=HWF.out x (by rw [<- n4];exact hx)
  exact ⟨hw,(fit_iff hw).1 (n3 x hx)⟩
 obtain ⟨p8,c8,hv8,_,_,rd⟩:=H8.out.form
 have RD:Hid (∀ i (hi:i<A.length),∃ g o,p8=some ⟨g,o,none⟩/\w.heap.size<=g/\g<w1.heap.size/\ ∀ j,j<3->w1.cell? ⟨g,o+i*3+j,none⟩=(eA A[i])[j]?):=rd
 obtain ⟨m,hm⟩: ∃ m,A.length=m:=⟨_,rfl⟩
 have HM:Hid (A.length=m):=hm
 have m9:m<=64:=by rw [<- hm];exact HA.out.1
 rw [hm] at hv8
 subst hv8
 clear rd hm H8
 have uF:IntKind.u64.wrap F=F:=by rw [IntKind.wrap_u64,Int.emod_eq_of_lt (by omega) (by omega)]
 obtain ⟨kb,hkb⟩: ∃ kb,w.heap.size=kb:=⟨_,rfl⟩
 have HKB:Hid (w.heap.size=kb):=hkb
 rw [hkb] at q1 q2
 go_upto_region 6 with fail
 clear hkb
 go_cut [10,11] (fun v u W=>Hid (TW w1 v u (ruseL F (A.take 0)) (rawayL F (k1,k2) (A.take 0)) W))
 case first =>
  show _
  refine wp_region_noPanic ?_
  refine wp_region_held_drew (S:=fun W=>W.cell? ⟨kb,0,none⟩=some (.int .i64 k1)/\W.cell? ⟨kb,1,none⟩=some (.int .i64 k2)) (by kernel_rfl) ?_ (fun hHeld=> ?_)
  . exact ⟨q1,q2⟩
  have BU:Hid (Below w1.heap.size w1 w1.drew):=below_drew (Below.refl _ _)
  generalize w1.drew=U at hHeld BU |-
  refine tk 1 48 (.agg #[.int .i64 k1,.int .i64 k2]) rfl (Or.inl ⟨by rfl,?_⟩) ?_
  . intro w hSw;(try dsimp only at hSw);have r1:w.cell? ⟨kb,0,none⟩=some (.int .i64 k1):=hSw.1;have r2:w.cell? ⟨kb,1,none⟩=some (.int .i64 k2):=hSw.2;(try go_simp);(try simp [*])
  try simp only [Act.put,List.setIfInBounds_toArray,List.set_cons_zero,List.set_cons_succ]
  refine wpAnyH_ready (rs:=[0,2]) (by kernel_rfl) (by simp) ?_
  refine AllReadyH.cons (o:=⟨some 47,_,_,_,_,none⟩) rfl (fun K hK=> ?_) (AllReadyH.cons (o:=⟨some 49,_,_,_,_,none⟩) rfl (fun K hK=> ?_) AllReadyH.nil)
  . go_simp
    refine hK.out _ _ ⟨(World.cell?_alloc_past _ _ _ (lt_of_cell hHeld.1)).trans hHeld.1,(World.cell?_alloc_past _ _ _ (lt_of_cell hHeld.2)).trans hHeld.2⟩ (fun hHeld2=> ?_)
    clear hK K hHeld
    have hHeld:=hHeld2
    clear hHeld2
    try simp only [Act.put,List.setIfInBounds_toArray,List.set_cons_zero,List.set_cons_succ]
    refine tk 3 10 ?_ rfl (Or.inl ⟨by rfl,?_⟩) ?_
    rotate_left
    . intro w hSw;(try dsimp only at hSw);go_simp;(try with_reducible rfl)
    try simp only [Act.put,List.setIfInBounds_toArray,List.set_cons_zero,List.set_cons_succ]
    refine wpAnyH_ready (rs:=[2]) (by kernel_rfl) (by simp) ?_
    refine AllReadyH.cons (o:=⟨some 49,_,_,_,_,none⟩) rfl (fun K hK=> ?_) AllReadyH.nil
    go_simp
    refine hK.out _ _ ⟨(World.cell?_alloc_past _ _ _ (lt_of_cell hHeld.1)).trans hHeld.1,(World.cell?_alloc_past _ _ _ (lt_of_cell hHeld.2)).trans hHeld.2⟩ (fun hHeld2=> ?_)
    clear hK K hHeld
    have hHeld:=hHeld2
    clear hHeld2
    try simp only [Act.put,List.setIfInBounds_toArray,List.set_cons_zero,List.set_cons_succ]
    refine tk 4 11 ?_ rfl (Or.inl ⟨by rfl,?_⟩) ?_
    rotate_left
    . intro w hSw;(try dsimp only at hSw);go_simp;(try with_reducible rfl)
    try simp only [Act.put,List.setIfInBounds_toArray,List.set_cons_zero,List.set_cons_succ]
    clear hHeld
    refine wpAnyH_done (by kernel_rfl) ?_ _
    refine NoPanic.normal ?_
    go_wp2_with fail
    go_meet
    exact tw_a w1 U BU.out k1 k2
  . go_simp
    refine hK.out _ _ ⟨(World.cell?_alloc_past _ _ _ (lt_of_cell hHeld.1)).trans hHeld.1,(World.cell?_alloc_past _ _ _ (lt_of_cell hHeld.2)).trans hHeld.2⟩ (fun hHeld2=> ?_)
    clear hK K hHeld
    have hHeld:=hHeld2
    clear hHeld2
    try simp only [Act.put,List.setIfInBounds_toArray,List.set_cons_zero,List.set_cons_succ]
    refine wpAnyH_ready (rs:=[0]) (by kernel_rfl) (by simp) ?_
    refine AllReadyH.cons (o:=⟨some 47,_,_,_,_,none⟩) rfl (fun K hK=> ?_) AllReadyH.nil
    go_simp
    refine hK.out _ _ ⟨(World.cell?_alloc_past _ _ _ (lt_of_cell hHeld.1)).trans hHeld.1,(World.cell?_alloc_past _ _ _ (lt_of_cell hHeld.2)).trans hHeld.2⟩ (fun hHeld2=> ?_)
    clear hK K hHeld
    have hHeld:=hHeld2
    clear hHeld2
    try simp only [Act.put,List.setIfInBounds_toArray,List.set_cons_zero,List.set_cons_succ]
    refine tk 3 10 ?_ rfl (Or.inl ⟨by rfl,?_⟩) ?_
    rotate_left
    . intro w hSw;(try dsimp only at hSw);go_simp;(try with_reducible rfl)
    try simp only [Act.put,List.setIfInBounds_toArray,List.set_cons_zero,List.set_cons_succ]
    refine tk 4 11 ?_ rfl (Or.inl ⟨by rfl,?_⟩) ?_
    rotate_left
    . intro w hSw;(try dsimp only at hSw);go_simp;(try with_reducible rfl)
    try simp only [Act.put,List.setIfInBounds_toArray,List.set_cons_zero,List.set_cons_succ]
    clear hHeld
    refine wpAnyH_done (by kernel_rfl) ?_ _
    refine NoPanic.normal ?_
    go_wp2_with fail
    go_meet
    exact tw_b w1 U BU.out k1 k2
 have T0:=hcut
 clear q1 q2 hcut
 go_wp2_with fail
 go_loopw [10,11,52] (fun u a i W=> ∃ k:Nat,k<=m/\i=.int .i64 k/\Hid (TW w1 u a (ruseL F (A.take k)) (rawayL F (k1,k2) (A.take k)) W)) (fun _ _ i _=>m-(Go.RowKit.intOf i).toNat)
 case atStart=>exact ⟨0,by omega,rfl,T0⟩
 case round =>
  clear T0
  obtain ⟨k,hk,rfl,T⟩:=hrel
  have UL:=ruse_len F (A.take k)
  have AL:=raway_len F (k1,k2) (A.take k)
  rw [List.length_take] at UL AL
  by_cases ck:k<m
  rotate_left
  . obtain rfl:k=m:=by omega
    have e9:A.take k=A:=by rw [<- HM.out,List.take_length]
    rw [e9] at T UL AL
    have U2:(ruseL F A).length*((rawayL F (k1,k2) A).length+1)<=64*66:=Nat.mul_le_mul (by omega) (by omega)
    have LC:Hid _:=rless_any 0 0 u10 u11 (ruseL F A) (rawayL F (k1,k2) A) (by omega) (by omega) wr ((ol_ll eR_len T.out.o1).low (Nat.zero_le _)) ((ol_ll eR_len T.out.o2).low (Nat.zero_le _))
    have HU:Hid ((ruseL F A).length*((rawayL F (k1,k2) A).length+1)<=64*66):=U2
    have HW:Hid (Below w.heap.size w wr):=below_then HB1.out T.out.bel
    have dk:decide ((k:Int)<(k:Int))=false:=by simp
    clear T UL AL U2 e9
    go_wp2_with fail
    refine Calls.mono LC.out ?_
    rintro e w3 ⟨v',M,rfl,O3,C3,S3,L3,B3⟩
    have E3:Hid (RL w3 w.heap.size v' M/\Can M/\(∀ x,Has M x↔FR F (k1,k2) A x)/\M.length<=5000/\Below w.heap.size w w3):=⟨(ol_ll eR_len O3).low HW.out.size,C3,fun x=>(S3 x).trans (clip_any F (k1,k2) A x),by omega,below_then HW.out B3⟩
    obtain ⟨p9,c9,hv9,_,_,_⟩:=(ol_ll eR_len O3).form
    obtain ⟨l9,hl9⟩: ∃ l9,M.length=l9:=⟨_,rfl⟩
    rw [hl9] at hv9
    subst hv9
    have HL9:Hid (M.length=l9):=hl9
    clear O3 C3 S3 L3 B3 LC hl9
    by_cases c0:l9=0
    . subst c0
      go_wp2_with fail
      go_returns
      refine ⟨_,_,_,rfl,ll_nil _ _ _ _,Or.inr (Or.inr ⟨HG.out,A,HPZ.out,can_nil,?_,?_⟩),by simp,E3.out.2.2.2.2⟩
      . have:M=[]:=List.eq_nil_of_length_eq_zero HL9.out
        have q:=E3.out.2.2.1
        rw [this] at q
        exact q
      . rfl
    . have e0:((l9:Int)==0)=false:=by simp;omega
      have e00: ¬ ((l9:Int)=0):=by omega
      go_wp2_with fail
      go_returns
      exact ⟨_,_,M,rfl,E3.out.1,Or.inr (Or.inr ⟨HG.out,A,HPZ.out,E3.out.2.1,E3.out.2.2.1,by rw [if_neg (by rw [HL9.out];exact c0)]⟩),E3.out.2.2.2.1,E3.out.2.2.2.2⟩
  have dk:decide ((k:Int)<(m:Int))=true:=decide_eq_true (by omega)
  have d0:decide ((k:Int)<0)=false:=by simp
  have kS:k<A.length:=by rw [HM.out];exact ck
  obtain ⟨ga,oa,rfl,_,la,rc⟩:=RD.out k kS
  have y0:wr.cell? ⟨ga,oa+k*3,none⟩=some (.int .u64 A[k].f):=(World.cell?_of_block (T.out.bel.block ga la)).trans (rc 0 (by omega))
  have y1:wr.cell? ⟨ga,oa+k*3+1,none⟩=some (.int .u64 A[k].l):=(World.cell?_of_block (T.out.bel.block ga la)).trans (rc 1 (by omega))
  have y2:wr.cell? ⟨ga,oa+k*3+2,none⟩=some (.int .u32 A[k].k):=(World.cell?_of_block (T.out.bel.block ga la)).trans (rc 2 (by omega))
  have HX:=HA.out.2 A[k] (List.getElem_mem kS)
  have U1:Hid (A[k].k=1->ruseL F (A.take (k+1))=ruseL F (A.take k)++[ruseR F A[k]]/\rawayL F (k1,k2) (A.take (k+1))=rawayL F (k1,k2) (A.take k)):=fun h=>⟨ruse_yes kS h,raway_no kS h⟩
  have U2:Hid (A[k].k≠1->ruseL F (A.take (k+1))=ruseL F (A.take k)/\rawayL F (k1,k2) (A.take (k+1))=rawayL F (k1,k2) (A.take k)++[rtchR F A[k]]):=fun h=>⟨ruse_no kS h,raway_yes kS h⟩
  generalize A[k]=x at y0 y1 y2 HX U1 U2
  obtain ⟨xf,xl,xk⟩:=x
  obtain ⟨⟨⟨x0,x1⟩,⟨x2,x3⟩,_⟩,x4⟩:=HX
  simp only at y0 y1 y2 x0 x1 x2 x3 x4 U1 U2
  have ULN:Hid ((ruseL F (A.take k)).length<=1048576/\(rawayL F (k1,k2) (A.take k)).length<=1048576):=⟨by omega,by omega⟩
  have TB:Hid (TW w1 u10 u11 (ruseL F (A.take k)) (rawayL F (k1,k2) (A.take k)) (wr.alloc (.cells #[.int .u64 xf,.int .u64 xl,.int .u32 xk] 160))):=T.out.below (Go.Joins.below_alloc1 _ _)
  clear T rc la UL AL
  by_cases cu:xk=1
  . subst cu
    obtain ⟨N1,N2⟩:=U1.out rfl
    obtain ⟨aa,haa⟩: ∃ aa,aa=min ((xf+4095) / 4096) F:=⟨_,rfl⟩
    obtain ⟨bb,hbb⟩: ∃ bb,bb=min ((xf+xl) / 4096) F:=⟨_,rfl⟩
    have WC:Hid (∀ W:World,_):=fun W=>rwhole_any xf xl 1 F x0 x2 x4 (by omega) (by omega) aa bb haa hbb W
    have NX:Hid (ruseL F (A.take (k+1))=ruseL F (A.take k)++[(aa,bb)]/\rawayL F (k1,k2) (A.take (k+1))=rawayL F (k1,k2) (A.take k)):=⟨by rw [N1,haa,hbb];rfl,N2⟩
    clear N1 N2 U1 U2 haa hbb x0 x1 x2 x3 x4
    go_upto_region 11 with fail
    have z0:(wr.alloc (.cells #[.int .u64 xf,.int .u64 xl,.int .u32 1] 160)).cell? ⟨wr.heap.size,0,none⟩=some (.int .u64 xf):=(Blk.made wr [.int .u64 xf,.int .u64 xl,.int .u32 1] 160).cell 0
    have z1:(wr.alloc (.cells #[.int .u64 xf,.int .u64 xl,.int .u32 1] 160)).cell? ⟨wr.heap.size,1,none⟩=some (.int .u64 xl):=(Blk.made wr [.int .u64 xf,.int .u64 xl,.int .u32 1] 160).cell 1
    have z2:(wr.alloc (.cells #[.int .u64 xf,.int .u64 xl,.int .u32 1] 160)).cell? ⟨wr.heap.size,2,none⟩=some (.int .u32 1):=(Blk.made wr [.int .u64 xf,.int .u64 xl,.int .u32 1] 160).cell 2
    clear y0 y1 y2
    generalize wr.alloc (.cells #[.int .u64 xf,.int .u64 xl,.int .u32 1] 160)=wx at TB z0 z1 z2 |-
    generalize wr.heap.size=xb at z0 z1 z2 |-
    go_wp2_with fail
    refine Calls.mono (WC.out _) ?_
    rintro e w4 ⟨rfl,hb⟩
    have T4:Hid (TW w1 u10 u11 (ruseL F (A.take k)) (rawayL F (k1,k2) (A.take k)) w4):=TB.out.below hb
    obtain ⟨v',W2,r,T5⟩:=T4.out.app ULN.out.1 (aa,bb)
    have T6:Hid (TW w1 v' u11 (ruseL F (A.take (k+1))) (rawayL F (k1,k2) (A.take (k+1))) W2):=by rw [NX.out.1,NX.out.2];exact T5
    clear hb TB z0 z1 z2 WC T4 T5 NX ULN
    go_wp2_with (at_builtin;refine wpList_app rfl _ _ 79 rfl u10 (.slice (some ⟨w4.heap.size,0,none⟩) 1 1) rfl rfl v' W2 r ?_)
    go_roundw
    case rel=>exact ⟨k+1,by omega,by go_num,T6⟩
    case measure=>simp [Go.RowKit.intOf];omega
  . have eu:(xk==1)=false:=by simp [cu]
    obtain ⟨N1,N2⟩:=U2.out cu
    obtain ⟨⟨aa,bb⟩,haa⟩: ∃ q,rtchR F ⟨xf,xl,xk⟩=q:=⟨_,rfl⟩
    have TC:Hid (∀ W:World,Calls Tryz.prog 74 #[.agg #[.int .u64 xf,.int .u64 xl,.int .u32 xk],.int .u64 F] W fun e w'=>e=.returned (.agg #[.int .i64 aa,.int .i64 bb])/\Below W.heap.size W w'):=fun W=>by
     unfold rtchR at haa
     by_cases l0:xl=0
     . subst l0
       rw [if_pos rfl] at haa
       cases haa
       exact rtouched_none xf xk F W
     . rw [if_neg l0] at haa
       cases haa
       exact rtouched_any xf xl xk F x0 (by omega) x4 (by omega) (by omega) _ _ rfl rfl W
    rw [haa] at N2
    have NX:Hid (ruseL F (A.take (k+1))=ruseL F (A.take k)/\rawayL F (k1,k2) (A.take (k+1))=rawayL F (k1,k2) (A.take k)++[(aa,bb)]):=⟨N1,N2⟩
    clear N1 N2 U1 U2 haa x0 x1 x2 x3 x4
    go_upto_region 12 with fail
    have z0:(wr.alloc (.cells #[.int .u64 xf,.int .u64 xl,.int .u32 xk] 160)).cell? ⟨wr.heap.size,0,none⟩=some (.int .u64 xf):=(Blk.made wr [.int .u64 xf,.int .u64 xl,.int .u32 xk] 160).cell 0
    have z1:(wr.alloc (.cells #[.int .u64 xf,.int .u64 xl,.int .u32 xk] 160)).cell? ⟨wr.heap.size,1,none⟩=some (.int .u64 xl):=(Blk.made wr [.int .u64 xf,.int .u64 xl,.int .u32 xk] 160).cell 1
    have z2:(wr.alloc (.cells #[.int .u64 xf,.int .u64 xl,.int .u32 xk] 160)).cell? ⟨wr.heap.size,2,none⟩=some (.int .u32 xk):=(Blk.made wr [.int .u64 xf,.int .u64 xl,.int .u32 xk] 160).cell 2
    clear y0 y1 y2
    generalize wr.alloc (.cells #[.int .u64 xf,.int .u64 xl,.int .u32 xk] 160)=wx at TB z0 z1 z2 |-
    generalize wr.heap.size=xb at z0 z1 z2 |-
    go_wp2_with fail
    refine Calls.mono (TC.out _) ?_
    rintro e w4 ⟨rfl,hb⟩
    have T4:Hid (TW w1 u10 u11 (ruseL F (A.take k)) (rawayL F (k1,k2) (A.take k)) w4):=TB.out.below hb
    obtain ⟨v',W2,r,T5⟩:=T4.out.swap.app ULN.out.2 (aa,bb)
    have T6:Hid (TW w1 u10 v' (ruseL F (A.take (k+1))) (rawayL F (k1,k2) (A.take (k+1))) W2):=by rw [NX.out.1,NX.out.2];exact T5.swap
    clear hb TB T4 T5 TC NX ULN z0 z1 z2
    go_wp2_with (at_builtin;refine wpList_app rfl _ _ 79 rfl u11 (.slice (some ⟨w4.heap.size,0,none⟩) 1 1) rfl rfl v' W2 r ?_)
    go_roundw
    case rel=>exact ⟨k+1,by omega,by go_num,T6⟩
    case measure=>simp [Go.RowKit.intOf];omega
end Go.Proofs.YthmobfelhpbllaaGreatDoor.Bm
