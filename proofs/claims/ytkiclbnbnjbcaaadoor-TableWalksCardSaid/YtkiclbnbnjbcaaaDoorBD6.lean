import Derived.Test.YtkiclbnbnjbcaaaDoorBD5
namespace Go.Proofs.YtkiclbnbnjbcaaaDoor.Bd
open Go.ChangeShapes Go.WideShapes Go.ChangeAt Go.RowKit Go.Maps
set_option linter.unusedSimpArgs false
set_option linter.unusedVariables false
set_option maxRecDepth 8000
theorem swap_len (h:List Int) (i j:Nat):(swapL h i j).length=h.length:=by unfold swapL;simp
theorem swap_get (h:List Int) (i j:Nat) (hi:i<h.length) (hj:j<h.length) (n:i≠j) (k:Nat):(swapL h i j)[k]? =if k=j then some h[i] else if k=i then some h[j] else h[k]? :=by
 unfold swapL
 rw [List.getElem?_set]
 by_cases c:j=k
 . rw [if_pos c,if_pos (by simp;omega),if_pos c.symm,List.getD_eq_getElem?_getD,List.getElem?_eq_getElem hi];rfl
 . rw [if_neg c,if_neg (fun e=>c e.symm),List.getElem?_set]
   by_cases d:i=k
   . rw [if_pos d,if_pos (by omega),if_pos d.symm,List.getD_eq_getElem?_getD,List.getElem?_eq_getElem hj];rfl
   . rw [if_neg d,if_neg (fun e=>d e.symm)]
theorem swap_at (h:List Int) (i j:Nat) (hi:i<h.length) (hj:j<h.length) (n:i≠j) (k:Nat) (hk:k<(swapL h i j).length):(swapL h i j)[k]=if k=j then h[i] else if k=i then h[j] else h[k]'(by rw [swap_len] at hk;exact hk):=by
 have hk':k<h.length:=by rw [swap_len] at hk;exact hk
 have g:=swap_get h i j hi hj n k
 rw [List.getElem?_eq_getElem hk,List.getElem?_eq_getElem hk'] at g
 by_cases c:k=j
 . rw [if_pos c] at g |-;exact Option.some.inj g
 . rw [if_neg c] at g |-
   by_cases d:k=i
   . rw [if_pos d] at g |-;exact Option.some.inj g
   . rw [if_neg d] at g |-;exact Option.some.inj g
theorem Placed.swap {h:List Int} {F:Int->Option Int} (H:Placed h F) (i j:Nat) (hi:i<h.length) (hj:j<h.length) (n:i≠j):Placed (swapL h i j) (setF (setF F h[j] (some (i:Int))) h[i] (some (j:Int))):=by
 have nij:=H.ne hi hj n
 refine ⟨fun k hk=> ?_,fun a k e=> ?_,fun a ha=> ?_⟩
 . have hk':k<h.length:=by rw [swap_len] at hk;exact hk
   rw [swap_at h i j hi hj n k hk]
   by_cases c:k=j
   . rw [if_pos c,set_same,c]
   . rw [if_neg c]
     by_cases d:k=i
     . rw [if_pos d,set_other _ _ _ _ (fun e=>nij e.symm),set_same,d]
     . rw [if_neg d,set_other _ _ _ _ (H.ne hk' hi d),set_other _ _ _ _ (H.ne hk' hj c)]
       exact H.1 k hk'
 . by_cases c:a=h[i]
   . subst c
     rw [set_same] at e
     cases e
     refine ⟨j,rfl,?_⟩
     rw [List.getElem?_eq_getElem (by rw [swap_len];exact hj),swap_at h i j hi hj n,if_pos rfl]
   . rw [set_other _ _ _ _ c] at e
     by_cases d:a=h[j]
     . subst d
       rw [set_same] at e
       cases e
       refine ⟨i,rfl,?_⟩
       rw [List.getElem?_eq_getElem (by rw [swap_len];exact hi),swap_at h i j hi hj n,if_neg n,if_pos rfl]
     . rw [set_other _ _ _ _ d] at e
       obtain ⟨m,rfl,hm⟩:=H.2.1 a k e
       have lm:m<h.length:=(List.getElem?_eq_some_iff.1 hm).1
       have em:h[m]=a:=(List.getElem?_eq_some_iff.1 hm).2
       refine ⟨m,rfl,?_⟩
       rw [List.getElem?_eq_getElem (by rw [swap_len];exact lm),swap_at h i j hi hj n,if_neg (fun q=>d (by subst q;exact em.symm)),if_neg (fun q=>c (by subst q;exact em.symm)),em]
 . obtain ⟨k,hk,rfl⟩:=List.getElem_of_mem ha
   have hk':k<h.length:=by rw [swap_len] at hk;exact hk
   rw [swap_at h i j hi hj n k hk]
   split
   . exact H.2.2 _ (List.getElem_mem hi)
   . split
     . exact H.2.2 _ (List.getElem_mem hj)
     . exact H.2.2 _ (List.getElem_mem hk')
def upL (h:List Int) (j:Nat):List Int :=
 if hj:j=0 then h else if h.getD j 0<h.getD ((j-1) / 2) 0 then upL (swapL h ((j-1) / 2) j) ((j-1) / 2) else h
termination_by j
decreasing_by omega
set_option maxHeartbeats 2000000 in
theorem up_any (base b q mb n:Nat) (C:List Value) (sv:Value) (h:List Int) (F:Int->Option Int) (j:Nat) (hj:j<h.length) (hn:n<maxLen) (hl:h.length<=1048576) (w:World) (H:Bl w base b q mb n C sv h F) (hP:Placed h F) :
 Calls Tryd.prog 97 #[.iface 152 (.pointer (some ⟨b,q,none⟩)),.int .i64 j] w fun e w'=>e=.returned (.tuple #[])/\(∃ F',Bl w' base b q mb n C sv (upL h j) F'/\Placed (upL h j) F')/\Kf (fun k=>k=mb\/sv.ownBlock=some k) w w':=by
 have HH:Hid (Bl w base b q mb n C sv h F):=H
 have PP:Hid (Placed h F):=hP
 clear H hP
 go_enter Tryd.func97,Tryd.ntmps97
 go_wp2_with fail
 go_loopw [1] (fun v W=> ∃ (k:Nat) (h':List Int) (F':Int->Option Int),k<h.length/\v=.int .i64 k/\h'.length=h.length/\Hid (Bl W base b q mb n C sv h' F')/\Hid (Placed h' F')/\Hid (upL h' k=upL h j)/\Hid (Kf (fun k=>k=mb\/sv.ownBlock=some k) w W)) (fun v _=>(intOf v).toNat)
 case atStart=>exact ⟨j,h,F,hj,rfl,rfl,HH,PP,rfl,Kf.refl _ _⟩
 case round =>
  obtain ⟨k,h',F',hk,rfl,hl',hB,hPl,hU,hK⟩:=hrel
  by_cases k0:k=0
  . subst k0
    have e0:upL h' 0=h':=by rw [upL];simp
    have O:Hid (upL h j=h'):=hU.out.symm.trans e0
    clear hU e0
    go_wp2_with fail
    go_end0
    exact ⟨rfl,⟨F',by rw [O.out];exact hB.out,by rw [O.out];exact hPl.out⟩,hK.out⟩
  . obtain ⟨i,hi⟩: ∃ i:Nat,i=(k-1) / 2:=⟨_,rfl⟩
    have ii:((k:Int)-1) / 2=(i:Int):=by omega
    have ik:i<k:=by omega
    have kb:(((k:Int)-1) / 2==(k:Int))=false:=by simp;omega
    have lk:k<h'.length:=by omega
    have li:i<h'.length:=by omega
    have LC:=fun W HW=>less_any base b q mb n C sv h' F' k i lk li W HW
    have SC:=fun W HW=>swap_any base b q mb n C sv h' F' i k li lk (by omega) hn (by omega) W HW hPl.out
    obtain ⟨z,hz⟩: ∃ z,decide (h'[k]<h'[i])=z:=⟨_,rfl⟩
    have gk:h'.getD k 0=h'[k]:=by rw [List.getD_eq_getElem?_getD,List.getElem?_eq_getElem lk];rfl
    have gi:h'.getD i 0=h'[i]:=by rw [List.getD_eq_getElem?_getD,List.getElem?_eq_getElem li];rfl
    have LC':Hid (Calls Tryd.prog 115 #[.pointer (some ⟨b,q,none⟩),.int .i64 k,.int .i64 (((k:Int)-1) / 2)] wr fun e w'=>e=.returned (.bool z)/\Below wr.heap.size wr w'):=by rw [ii,<- hz];exact LC wr hB.out
    have SC':Hid (∀ W:World,Bl W base b q mb n C sv h' F'->Calls Tryd.prog 118 #[.pointer (some ⟨b,q,none⟩),.int .i64 (((k:Int)-1) / 2),.int .i64 k] W fun e w'=>e=.returned (.tuple #[])/\Bl w' base b q mb n C sv (swapL h' i k) (setF (setF F' h'[k] (some (i:Int))) h'[i] (some (k:Int)))/\Kf (fun k=>k=mb\/sv.ownBlock=some k) W w'):=fun W HW=>by rw [ii];exact SC W HW
    have US:upL h' k=if z=true then upL (swapL h' i k) i else h':=by
     rw [upL,dif_neg k0,<- hi,gk,gi,<- hz]
     by_cases c:h'[k]<h'[i]
     . rw [if_pos c,if_pos (by simp [c])]
     . rw [if_neg c,if_neg (by simp [c])]
    have PS:Hid (Placed (swapL h' i k) (setF (setF F' h'[k] (some (i:Int))) h'[i] (some (k:Int)))):=hPl.out.swap i k li lk (by omega)
    have US':Hid (upL h' k=if z=true then upL (swapL h' i k) i else h'):=US
    have SL:(swapL h' i k).length=h.length:=by rw [swap_len];exact hl'
    have II:Hid (((k:Int)-1) / 2=(i:Int)):=ii
    clear LC SC hz gk gi US ii hi
    go_wp2_with fail
    refine LC'.out.mono ?_
    rintro e u1 ⟨rfl,hb⟩
    have B1:Hid (Bl u1 base b q mb n C sv h' F'):=hB.out.below hb
    have K1:Hid (Kf (fun k=>k=mb\/sv.ownBlock=some k) w u1):=hK.out.trans (Kf.below hb)
    clear hb hB hK LC'
    cases z
    . have O:Hid (upL h j=h'):=hU.out.symm.trans (US'.out.trans (if_neg (by simp)))
      clear hU US' SC' PS
      go_wp2_with fail
      go_end0
      exact ⟨rfl,⟨F',by rw [O.out];exact B1.out,by rw [O.out];exact hPl.out⟩,K1.out⟩
    . have O:Hid (upL (swapL h' i k) i=upL h j):=(US'.out.trans (if_pos rfl)).symm.trans hU.out
      clear hU US'
      go_wp2_with fail
      refine (SC'.out _ B1.out).mono ?_
      rintro e u2 ⟨rfl,hB2,hk2⟩
      have B2:Hid (Bl u2 base b q mb n C sv (swapL h' i k) (setF (setF F' h'[k] (some (i:Int))) h'[i] (some (k:Int)))):=hB2
      have K2:Hid (Kf (fun k=>k=mb\/sv.ownBlock=some k) w u2):=K1.out.trans hk2
      clear hB2 hk2 SC' B1 K1
      go_wp2_with fail
      go_roundw
      case rel=>exact ⟨i,_,_,by omega,by rw [II.out],SL,B2,PS,O,K2⟩
      case measure=>have:=II.out;simp [intOf];omega
end Go.Proofs.YtkiclbnbnjbcaaaDoor.Bd
