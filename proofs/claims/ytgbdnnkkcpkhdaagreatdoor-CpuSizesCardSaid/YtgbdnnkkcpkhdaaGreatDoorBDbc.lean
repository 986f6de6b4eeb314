import Derived.Test.YtgbdnnkkcpkhdaaGreatDoorBDac
import Derived.Deep.DeepCutAuto
set_option linter.unusedSimpArgs false
set_option linter.unusedVariables false
set_option maxRecDepth 8000
set_option maxHeartbeats 4000000
open Go.ChangeShapes Go.WideShapes Go.ChangeAt Go.RowKit Go.Maps
namespace Go.Proofs.YtgbdnnkkcpkhdaaGreatDoor.Bd
theorem swap_len (h:List Int) (i j:Nat):(swapL h i j).length=h.length:=by unfold swapL;simp
theorem swap_get (h:List Int) (i j:Nat) (hi:i<h.length) (hj:j<h.length) (n:i≠j) (k:Nat):(swapL h i j)[k]? =if k=j then some h[i] else if k=i then some h[j] else h[k]? :=by
 unfold swapL
 rw [List.getElem?_set]
 by_cases c:j=k
 . rw [if_pos c,if_pos kh,if_pos c.symm,List.getD_eq_getElem?_getD,List.getElem?_eq_getElem hi];rfl
 . rw [if_neg c,if_neg (fun e=>c e.symm),List.getElem?_set]
   by_cases d:i=k
   . rw [if_pos d,if_pos (by omega),if_pos d.symm,List.getD_eq_getElem?_getD,List.getElem?_eq_getElem hj];rfl
   . rw [if_neg d,if_neg (fun e=>d e.symm)]
theorem swap_at (h:List Int) (i j:Nat) (hi:i<h.length) (hj:j<h.length) (n:i≠j) (k:Nat) (hk:k<(swapL h i j).length):(swapL h i j)[k]=if k=j then h[i] else if k=i then h[j] else h[k]'(by rw [swap_len] at hk;exact hk):=by
 have hk':k<h.length:=by rw [swap_len] at hk;exact hk
 have g:=swap_get h i j hi hj n k
 rw [List.getElem?_eq_getElem hk,List.getElem?_eq_getElem hk'] at g
 by_cases c:k=j
 . rw [if_pos c] at g |-;exact sia g
 . rw [if_neg c] at g |-
   by_cases d:k=i
   . rw [if_pos d] at g |-;exact sia g
   . rw [if_neg d] at g |-;exact sia g
theorem Placed.swap {h:List Int} {F:Int->Option Int} (H:Placed h F) (i j:Nat) (hi:i<h.length) (hj:j<h.length) (n:i≠j):Placed (swapL h i j) (setF (setF F h[j] (some (i:Int))) h[i] (some (j:Int))):=by
 have nij:=H.ne hi hj n
 refine ⟨fun k hk=> ?_,fun a k e=> ?_,fun a ha=> ?_⟩
 . have hk':k<h.length:=by rw [swap_len] at hk;exact hk
   rw [swap_at h i j hi hj n k hk]
   by_cases c:k=j
   . rw [if_pos c,set_same,c]
   . rw [if_neg c]
     by_cases d:k=i
     . rw [if_pos d,set_other _ _ _ _ (fun e=>nij e.symm),set_same,d]
     . rw [if_neg d,set_other _ _ _ _ (H.ne hk' hi d),set_other _ _ _ _ (H.ne hk' hj c)]
       exact H.1 k hk'
 . by_cases c:a=h[i]
   . subst c
     rw [set_same] at e
     cases e
     refine ⟨j,rfl,?_⟩
     rw [List.getElem?_eq_getElem (by rw [swap_len];exact hj),swap_at h i j hi hj n,if_pos rfl]
   . rw [set_other _ _ _ _ c] at e
     by_cases d:a=h[j]
     . subst d
       rw [set_same] at e
       cases e
       refine ⟨i,rfl,?_⟩
       rw [List.getElem?_eq_getElem (by rw [swap_len];exact hi),swap_at h i j hi hj n,if_neg n,if_pos rfl]
     . rw [set_other _ _ _ _ d] at e
       obtain ⟨m,rfl,hm⟩:=H.2.1 a k e
       have lm:m<h.length:=(List.getElem?_eq_some_iff.1 hm).1
       have em:h[m]=a:=(List.getElem?_eq_some_iff.1 hm).2
       refine ⟨m,rfl,?_⟩
       rw [List.getElem?_eq_getElem (by rw [swap_len];exact lm),swap_at h i j hi hj n,if_neg (fun q=>d (by subst q;exact em.symm)),if_neg (fun q=>c (by subst q;exact em.symm)),em]
 . obtain ⟨k,hk,rfl⟩:=List.getElem_of_mem ha
   have hk':k<h.length:=by rw [swap_len] at hk;exact hk
   rw [swap_at h i j hi hj n k hk]
   split
   . exact H.2.2 _ (List.getElem_mem hi)
   . split
     . exact H.2.2 _ (List.getElem_mem hj)
     . exact H.2.2 _ (List.getElem_mem hk')
def upL (h:List Int) (j:Nat):List Int :=
 if hj:j=0 then h else if h.getD j 0<h.getD ((j-1) / 2) 0 then upL (swapL h ((j-1) / 2) j) ((j-1) / 2) else h
termination_by j
decreasing_by omega
theorem up_any (base b q mb n:Nat) (C:List Value) (sv:Value) (h:List Int) (F:Int->Option Int) (j:Nat) (hj:j<h.length) (hn:n<maxLen) (hl:h.length<=1048576) (w:World) (H:Bl w base b q mb n C sv h F) (hP:Placed h F) :
 Calls Tryz.prog 151 #[.iface 226 (.pointer (some ⟨b,q,none⟩)),.int .i64 j] w fun e w'=>e=.returned (.tuple #[])/\(∃ F',Bl w' base b q mb n C sv (upL h j) F'/\Placed (upL h j) F')/\Kf (fun k=>k=mb\/sv.ownBlock=some k) w w':=by
 have HH:Hid (Bl w base b q mb n C sv h F):=H
 have PP:Hid (Placed h F):=hP
 clear H hP
 go_enter Tryz.func151,Tryz.ntmps151
 go_wp2_with fail
 go_loopw [1] (fun v W=> ∃ (k:Nat) (h':List Int) (F':Int->Option Int),k<h.length/\v=.int .i64 k/\h'.length=h.length/\Hid (Bl W base b q mb n C sv h' F')/\Hid (Placed h' F')/\Hid (upL h' k=upL h j)/\Hid (Kf (fun k=>k=mb\/sv.ownBlock=some k) w W)) (fun v _=>(intOf v).toNat)
 case atStart=>exact ⟨j,h,F,hj,rfl,rfl,HH,PP,rfl,Kf.refl _ _⟩
 case round =>
  obtain ⟨k,h',F',hk,rfl,hl',hB,hPl,hU,hK⟩:=hrel
  by_cases k0:k=0
  . subst k0
    have e0:upL h' 0=h':=by rw [upL];simp
    have O:Hid (upL h j=h'):=hU.out.symm.trans e0
    clear hU e0
    go_wp2_with fail
    go_end0
    exact ⟨rfl,⟨F',by rw [O.out];exact hB.out,by rw [O.out];exact hPl.out⟩,hK.out⟩
  . obtain ⟨i,hi⟩: ∃ i:Nat,i=(k-1) / 2:=⟨_,rfl⟩
    have ii:((k:Int)-1) / 2=(i:Int):=by omega
    have ik:i<k:=by omega
    have kb:(((k:Int)-1) / 2==(k:Int))=false:=kh
    have lk:k<h'.length:=by omega
    have li:i<h'.length:=by omega
    have LC:=fun W HW=>less_any base b q mb n C sv h' F' k i lk li W HW
    have SC:=fun W HW=>swap_any base b q mb n C sv h' F' i k li lk (by omega) hn (by omega) W HW hPl.out
    obtain ⟨z,hz⟩: ∃ z,decide (h'[k]<h'[i])=z:=⟨_,rfl⟩
    have gk:h'.getD k 0=h'[k]:=by rw [List.getD_eq_getElem?_getD,List.getElem?_eq_getElem lk];rfl
    have gi:h'.getD i 0=h'[i]:=by rw [List.getD_eq_getElem?_getD,List.getElem?_eq_getElem li];rfl
    have LC':Hid (Calls Tryz.prog 177 (sf (.pointer (some ⟨b,q,none⟩)) k (((k:Int)-1) / 2)) wr (re (.bool z) wr)):=by rw [ii,<- hz];exact LC wr hB.out
    have SC':Hid (∀ W:World,Bl W base b q mb n C sv h' F'->Calls Tryz.prog 180 (sf (.pointer (some ⟨b,q,none⟩)) (((k:Int)-1) / 2) k) W fun e w'=>e=.returned (.tuple #[])/\Bl w' base b q mb n C sv (swapL h' i k) (setF (setF F' h'[k] (some (i:Int))) h'[i] (some (k:Int)))/\Kf (fun k=>k=mb\/sv.ownBlock=some k) W w'):=fun W HW=>by rw [ii];exact SC W HW
    have US:upL h' k=if z=true then upL (swapL h' i k) i else h':=by
     rw [upL,dif_neg k0,<- hi,gk,gi,<- hz]
     by_cases c:h'[k]<h'[i]
     . rw [if_pos c,if_pos (by simp [c])]
     . rw [if_neg c,if_neg (by simp [c])]
    have PS:Hid (Placed (swapL h' i k) (setF (setF F' h'[k] (some (i:Int))) h'[i] (some (k:Int)))):=hPl.out.swap i k li lk (by omega)
    have US':Hid (upL h' k=if z=true then upL (swapL h' i k) i else h'):=US
    have SL:(swapL h' i k).length=h.length:=by rw [swap_len];exact hl'
    have II:Hid (((k:Int)-1) / 2=(i:Int)):=ii
    clear LC SC hz gk gi US ii hi
    go_wp2_with fail
    refine LC'.out.mono ?_
    rintro e u1 ⟨rfl,hb⟩
    have B1:Hid (Bl u1 base b q mb n C sv h' F'):=hB.out.below hb
    have K1:Hid (Kf (fun k=>k=mb\/sv.ownBlock=some k) w u1):=hK.out.trans (Kf.below hb)
    clear hb hB hK LC'
    cases z
    . have O:Hid (upL h j=h'):=hU.out.symm.trans (US'.out.trans (if_neg (by simp)))
      clear hU US' SC' PS
      go_wp2_with fail
      go_end0
      exact ⟨rfl,⟨F',by rw [O.out];exact B1.out,by rw [O.out];exact hPl.out⟩,K1.out⟩
    . have O:Hid (upL (swapL h' i k) i=upL h j):=(US'.out.trans (if_pos rfl)).symm.trans hU.out
      clear hU US'
      go_wp2_with fail
      refine (SC'.out _ B1.out).mono ?_
      rintro e u2 ⟨rfl,hB2,hk2⟩
      have B2:Hid (Bl u2 base b q mb n C sv (swapL h' i k) (setF (setF F' h'[k] (some (i:Int))) h'[i] (some (k:Int)))):=hB2
      have K2:Hid (Kf (fun k=>k=mb\/sv.ownBlock=some k) w u2):=K1.out.trans hk2
      clear hB2 hk2 SC' B1 K1
      go_wp2_with fail
      go_roundw
      case rel=>exact ⟨i,_,_,by omega,by rw [II.out],SL,B2,PS,O,K2⟩
      case measure=>have:=II.out;simp [intOf];omega
def kidL (h:List Int) (m i:Nat):Nat:=if 2*i+2<m/\h.getD (2*i+2) 0<h.getD (2*i+1) 0 then 2*i+2 else 2*i+1
def downS (h:List Int) (m i:Nat):List Int × Nat :=
 if hm:2*i+1<m then (if h.getD (kidL h m i) 0<h.getD i 0 then downS (swapL h i (kidL h m i)) m (kidL h m i) else (h,i)) else (h,i)
termination_by m-i
decreasing_by unfold kidL;split <;> omega
theorem kid_bd (h:List Int) (m i:Nat) (hm:2*i+1<m):i<kidL h m i/\kidL h m i<m:=by unfold kidL;split <;> omega
theorem getD_at (h:List Int) (k:Nat) (hk:k<h.length):h.getD k 0=h[k]:=by rw [List.getD_eq_getElem?_getD,List.getElem?_eq_getElem hk];rfl
theorem down_any (base b q mb n:Nat) (C:List Value) (sv:Value) (h:List Int) (F:Int->Option Int) (i0 m:Nat) (hi0:i0<h.length) (hm:m<=h.length) (hn:n<maxLen) (hl:h.length<=1048576) (w:World) (H:Bl w base b q mb n C sv h F) (hP:Placed h F) :
 Calls Tryz.prog 150 #[.iface 226 (.pointer (some ⟨b,q,none⟩)),.int .i64 i0,.int .i64 m] w fun e w'=>e=.returned (.bool (decide (i0<(downS h m i0).2)))/\(∃ F',Bl w' base b q mb n C sv (downS h m i0).1 F'/\Placed (downS h m i0).1 F')/\Kf (fun k=>k=mb\/sv.ownBlock=some k) w w':=by
 have HH:Hid (Bl w base b q mb n C sv h F):=H
 have PP:Hid (Placed h F):=hP
 clear H hP
 go_enter Tryz.func150,Tryz.ntmps150
 go_wp2_with fail
 go_loopw [7] (fun v W=> ∃ (k:Nat) (h':List Int) (F':Int->Option Int),k<h.length/\v=.int .i64 k/\h'.length=h.length/\Hid (Bl W base b q mb n C sv h' F')/\Hid (Placed h' F')/\Hid (downS h' m k=downS h m i0)/\Hid (Kf (fun k=>k=mb\/sv.ownBlock=some k) w W)) (fun v _=>m-(intOf v).toNat)
 case atStart=>exact ⟨i0,h,F,hi0,rfl,rfl,HH,PP,rfl,Kf.refl _ _⟩
 case round =>
  obtain ⟨k,h',F',hk,rfl,hl',hB,hPl,hU,hK⟩:=hrel
  by_cases c1:2*k+1<m
  rotate_left
  . have d1:decide ((m:Int)<=2*(k:Int)+1)=true:=by simp;omega
    have O:Hid (downS h m i0=(h',k)):=hU.out.symm.trans (by rw [downS,dif_neg c1])
    have O2:Hid ((decide (i0<(downS h m i0).2))=decide ((i0:Int)<(k:Int))):=by show _=_;rw [O.out];simp
    clear hU
    go_wp2_with fail
    go_ret
    exact ⟨by rw [O.out];rfl,⟨F',by rw [O.out];exact hB.out,by rw [O.out];exact hPl.out⟩,hK.out⟩
  have d1:decide ((m:Int)<=2*(k:Int)+1)=false:=kh
  have d2:decide (2*(k:Int)+1<0)=false:=kh
  obtain ⟨kd,hkd⟩: ∃ kd,kidL h' m k=kd:=⟨_,rfl⟩
  have kb:=kid_bd h' m k c1
  rw [hkd] at kb
  obtain ⟨zz,hzz⟩: ∃ zz,(decide (2*k+2<m) && decide (h'.getD (2*k+2) 0<h'.getD (2*k+1) 0))=zz:=⟨_,rfl⟩
  have KD:Hid ((zz=true->kd=2*k+2)/\(zz=false->kd=2*k+1)):=by
   rw [<- hkd,<- hzz];unfold kidL
   constructor
   . intro q;rw [if_pos (by simpa using q)]
   . intro q;rw [if_neg (by simpa using q)]
  have lk:k<h'.length:=by omega
  have lkd:kd<h'.length:=by omega
  have kb1:=kb.1
  have kb2:=kb.2
  have ZZ:Hid ((decide (2*k+2<m) && decide (h'.getD (2*k+2) 0<h'.getD (2*k+1) 0))=zz):=hzz
  have LA:Hid (∀ (i j:Nat) (hi:i<h'.length) (hj:j<h'.length) (W:World),Bl W base b q mb n C sv h' F'->Calls Tryz.prog 177 (sf (.pointer (some ⟨b,q,none⟩)) i j) W (re (.bool (decide (h'.getD i 0<h'.getD j 0))) W)):=fun i j hi hj W HW=>by
   rw [getD_at h' i hi,getD_at h' j hj];exact less_any base b q mb n C sv h' F' i j hi hj W HW
  have SC:=fun W HW=>swap_any base b q mb n C sv h' F' k kd lk lkd (by omega) hn (by omega) W HW hPl.out
  have SC':Hid (∀ W:World,Bl W base b q mb n C sv h' F'->Calls Tryz.prog 180 (sf (.pointer (some ⟨b,q,none⟩)) k kd) W fun e w'=>e=.returned (.tuple #[])/\Bl w' base b q mb n C sv (swapL h' k kd) (setF (setF F' h'[kd] (some (k:Int))) h'[k] (some (kd:Int)))/\Kf (fun k=>k=mb\/sv.ownBlock=some k) W w'):=SC
  have PS:Hid (Placed (swapL h' k kd) (setF (setF F' h'[kd] (some (k:Int))) h'[k] (some (kd:Int)))):=hPl.out.swap k kd lk lkd (by omega)
  obtain ⟨z2,hz2⟩: ∃ z,decide (h'.getD kd 0<h'.getD k 0)=z:=⟨_,rfl⟩
  have LC2:Hid (∀ W:World,Bl W base b q mb n C sv h' F'->Calls Tryz.prog 177 (sf (.pointer (some ⟨b,q,none⟩)) kd k) W (re (.bool z2) W)):=fun W HW=>by rw [<- hz2];exact LA.out kd k lkd lk W HW
  have US:Hid (downS h' m k=if z2=true then downS (swapL h' k kd) m kd else (h',k)):=by
   show _=_
   rw [downS,dif_pos c1,hkd,<- hz2]
   by_cases c:h'.getD kd 0<h'.getD k 0
   . rw [if_pos c,if_pos (decide_eq_true c)]
   . rw [if_neg c,if_neg (by rw [decide_eq_false c];simp)]
  have SL:(swapL h' k kd).length=h.length:=by rw [swap_len];exact hl'
  clear SC hz2 hkd hzz kb
  go_upto_region 6 with fail
  go_cut [33] (fun v wx=>v=.bool zz/\Hid (Bl wx base b q mb n C sv h' F')/\Hid (Kf (fun k=>k=mb\/sv.ownBlock=some k) w wx))
  case first =>
   by_cases c2:2*k+2<m
   . have d3:decide (2*(k:Int)+1+1<(m:Int))=true:=by simp;omega
     have LC1:Hid (Calls Tryz.prog 177 (sf (.pointer (some ⟨b,q,none⟩)) (2*(k:Int)+1+1) (2*(k:Int)+1)) wr (re (.bool zz) wr)):=by
      have q:=LA.out (2*k+2) (2*k+1) (by omega) (by omega) wr hB.out
      rw [<- ZZ.out,decide_eq_true c2,Bool.true_and]
      rw [show ((2*k+2:Nat):Int)=2*(k:Int)+1+1 by omega,show ((2*k+1:Nat):Int)=2*(k:Int)+1 by omega] at q
      exact q
     clear c2
     go_wp2_with fail
     refine LC1.out.mono ?_
     rintro e u1 ⟨rfl,hb⟩
     have B1:Hid (Bl u1 base b q mb n C sv h' F'):=hB.out.below hb
     have K1:Hid (Kf (fun k=>k=mb\/sv.ownBlock=some k) w u1):=hK.out.trans (Kf.below hb)
     clear hb
     go_wp2_with fail
     go_meet
     exact ⟨rfl,B1,K1⟩
   . have d3:decide (2*(k:Int)+1+1<(m:Int))=false:=by simp;omega
     have d3': ¬ (2*(k:Int)+1+1<(m:Int)):=by omega
     have z0:zz=false:=by rw [<- ZZ.out,decide_eq_false c2];rfl
     subst z0
     clear c2
     go_wp2_with fail
     go_meet
     exact ⟨rfl,hB,hK⟩
  clear hB hK LA ZZ
  obtain ⟨h33,hB,hK⟩:=hcut
  subst h33
  go_upto_if 33 with fail
  go_cut [9] (fun v wx=>v=.int .i64 kd/\wx=wc)
  case first =>
   have kd1:=KD.out.1
   have kd2:=KD.out.2
   clear KD
   cases zz
   . have e:=kd2 rfl
     clear kd1 kd2
     go_wp2_with fail
     go_meet
     exact ⟨by rw [e];go_num,rfl⟩
   . have e:=kd1 rfl
     clear kd1 kd2
     go_wp2_with fail
     go_meet
     exact ⟨by rw [e];go_num,rfl⟩
  obtain ⟨h9,hwc⟩:=hcut
  subst h9
  subst hwc
  clear KD d1 d2 c1
  go_wp2_with fail
  refine (LC2.out _ hB.out).mono ?_
  rintro e u1 ⟨rfl,hb⟩
  have B1:Hid (Bl u1 base b q mb n C sv h' F'):=hB.out.below hb
  have K1:Hid (Kf (fun k=>k=mb\/sv.ownBlock=some k) w u1):=hK.out.trans (Kf.below hb)
  clear hb hB hK LC2
  cases z2
  . have O:Hid (downS h m i0=(h',k)):=hU.out.symm.trans (US.out.trans (if_neg (by simp)))
    clear hU US SC' PS
    go_wp2_with fail
    go_ret
    exact ⟨by rw [O.out];rfl,⟨F',by rw [O.out];exact B1.out,by rw [O.out];exact hPl.out⟩,K1.out⟩
  . have O:Hid (downS (swapL h' k kd) m kd=downS h m i0):=(US.out.trans (if_pos rfl)).symm.trans hU.out
    clear hU US
    go_wp2_with fail
    refine (SC'.out _ B1.out).mono ?_
    rintro e u2 ⟨rfl,hB2,hk2⟩
    have B2:Hid (Bl u2 base b q mb n C sv (swapL h' k kd) (setF (setF F' h'[kd] (some (k:Int))) h'[k] (some (kd:Int)))):=hB2
    have K2:Hid (Kf (fun k=>k=mb\/sv.ownBlock=some k) w u2):=K1.out.trans hk2
    clear hB2 hk2 SC' B1 K1
    go_wp2_with fail
    go_roundw
    case rel=>exact ⟨kd,_,_,by omega,rfl,SL,B2,PS,O,K2⟩
    case measure=>simp [intOf];omega
theorem Kf.next {S S':Nat->Prop} {a b c:World} (h:Kf S a b) (k:Kf S' b c) (hS: ∀ j,j<a.heap.size->S' j->S j):Kf S a c:=⟨k.os.trans h.os,k.tape.trans h.tape,k.output.trans h.output,Nat.le_trans h.size k.size,fun j hj hn=>(k.block j (nla hj h.size) (fun e=>hn (hS j hj e))).trans (h.block j hj hn)⟩
theorem Placed.push {h:List Int} {F:Int->Option Int} (H:Placed h F) (x:Int) (hx:0<=x/\x<1048576) (hF:F x=none):Placed (h++[x]) (setF F x (some (h.length:Int))):=by
 refine ⟨fun k hk=> ?_,fun a k e=> ?_,fun a ha=> ?_⟩
 . by_cases c:k<h.length
   . rw [List.getElem_append_left c]
     have e:=H.1 k c
     rw [set_other _ _ _ _ (fun q=>by rw [q,hF] at e;cases e)]
     exact e
   . have:k=h.length:=by rw [List.length_append] at hk;simp at hk;omega
     subst this
     rw [List.getElem_append_right (Nat.le_refl _)]
     simp only [Nat.sub_self,List.getElem_cons_zero]
     rw [set_same]
 . by_cases c:a=x
   . subst c
     rw [set_same] at e
     cases e
     exact ⟨h.length,rfl,by simp⟩
   . rw [set_other _ _ _ _ c] at e
     obtain ⟨m,rfl,hm⟩:=H.2.1 a k e
     exact ⟨m,rfl,by rw [List.getElem?_append_left (List.getElem?_eq_some_iff.1 hm).1];exact hm⟩
 . rcases List.mem_append.1 ha with q | q
   . exact H.2.2 a q
   . rw [List.mem_singleton.1 q];exact hx
theorem Placed.pop {h:List Int} {x:Int} {F:Int->Option Int} (H:Placed (h++[x]) F):Placed h (setF F x none)/\0<=x/\x<1048576:=by
 have hx:=H.2.2 x (by simp)
 have lx:F x=some (h.length:Int):=by
  have:=H.1 h.length (by simp)
  rw [List.getElem_append_right (Nat.le_refl _)] at this
  simpa using this
 refine ⟨⟨fun k hk=> ?_,fun a k e=> ?_,fun a ha=>H.2.2 a (List.mem_append_left _ ha)⟩,hx⟩
 . have e:=H.1 k (by rw [List.length_append];omega)
   rw [List.getElem_append_left hk] at e
   rw [set_other _ _ _ _ (fun q=>by rw [q,lx] at e;have:=sia e;omega)]
   exact e
 . by_cases c:a=x
   . subst c;rw [set_same] at e;cases e
   . rw [set_other _ _ _ _ c] at e
     obtain ⟨m,rfl,hm⟩:=H.2.1 a k e
     refine ⟨m,rfl,?_⟩
     have lm:=(List.getElem?_eq_some_iff.1 hm).1
     by_cases d:m<h.length
     . rw [List.getElem?_append_left d] at hm;exact hm
     . have:m=h.length:=by rw [List.length_append] at lm;simp at lm;omega
       subst this
       simp at hm
       exact absurd hm.symm c
theorem up_len (h:List Int) (j:Nat):(upL h j).length=h.length:=by
 fun_induction upL h j with
 | case1 => rfl
 | case2 h j hj c ih => rw [ih, swap_len]
 | case3 => rfl
theorem up_get (h:List Int) (j:Nat) (hl:j<h.length) (k:Nat) (hk:j<k):(upL h j)[k]? =h[k]? :=by
 fun_induction upL h j with
 | case1 => rfl
 | case2 h j hj c ih => rw [ih (by rw [swap_len]; omega) (by omega), swap_get h _ j (by omega) hl (by omega), if_neg (by omega), if_neg (by omega)]
 | case3 => rfl
theorem down_len (h:List Int) (m i:Nat):(downS h m i).1.length=h.length:=by
 fun_induction downS h m i with
 | case1 h i hm c ih => rw [ih, swap_len]
 | case2 => rfl
 | case3 => rfl
theorem down_get (h:List Int) (m i:Nat) (hi:i<h.length) (hm:m<=h.length) (im:i<=m) (k:Nat) (hk:m<=k) (ik:i≠k):(downS h m i).1[k]? =h[k]? :=by
 fun_induction downS h m i with
 | case1 h i hm' c ih =>
  have kb:=kid_bd h m i hm'
  rw [ih (by rw [swap_len];omega) (by rw [swap_len];omega) (by omega) (by omega),swap_get h i _ (by omega) (by omega) (by omega),if_neg (by omega),if_neg (by omega)]
 | case2 => rfl
 | case3 => rfl
theorem hpush_any (base b q mb n:Nat) (C:List Value) (sv:Value) (h:List Int) (F:Int->Option Int) (x:Int) (hx:0<=x/\x<1048576) (hn:n+1<maxLen) (hl:h.length<1048576) (w:World) (H:Bl w base b q mb n C sv h F) (hP:Placed h F) (hB:base<=w.heap.size) (hF:F x=none) :
 Calls Tryz.prog 137 #[.iface 226 (.pointer (some ⟨b,q,none⟩)),.iface 3 (.int .i64 x)] w fun e w'=> ∃ sv' F',e=.returned (.tuple #[])/\Bl w' base b q mb (n+1) (C.set (q+1) sv') sv' (upL (h++[x]) h.length) F'/\Placed (upL (h++[x]) h.length) F'/\Kf (fun k=>k=b\/k=mb\/sv.ownBlock=some k) w w'/\(sv'.ownBlock=sv.ownBlock\/ ∃ g,sv'.ownBlock=some g/\w.heap.size<=g):=by
 have PC:=push_any base b q mb n C sv h F x hx (by omega) (by omega) w H hB hF
 have PC':Hid _:=PC
 have P1:Hid (Placed (h++[x]) (setF F x (some (h.length:Int)))):=hP.push x hx hF
 clear PC H hP hF
 go_enter Tryz.func137,Tryz.ntmps137
 go_wp2_with fail
 refine Calls.mono PC'.out ?_
 rintro e u1 ⟨sv',rfl,hB1,hk1,hs1⟩
 have B1:Hid (Bl u1 base b q mb (n+1) (C.set (q+1) sv') sv' (h++[x]) (setF F x (some (h.length:Int)))):=hB1
 have K1:Hid (Kf (fun k=>k=b\/k=mb\/sv.ownBlock=some k) w u1):=hk1
 have S1:Hid (sv'.ownBlock=sv.ownBlock\/ ∃ g,sv'.ownBlock=some g/\w.heap.size<=g):=hs1
 clear hB1 hk1 hs1 PC'
 have LC:Hid (Calls Tryz.prog 85 #[.pointer (some ⟨b,q,none⟩)] u1 fun e w'=>e=.returned (.int .i64 ((h.length:Int)+1))/\w'=u1):=by
  have q:=len_any base b _ mb _ _ _ _ _ u1 B1.out
  rw [show ((h++[x]).length:Int)=(h.length:Int)+1 by simp] at q
  exact q
 have UC:Hid (Calls Tryz.prog 151 #[.iface 226 (.pointer (some ⟨b,q,none⟩)),.int .i64 (h.length:Int)] u1 fun e w'=>e=.returned (.tuple #[])/\(∃ F',Bl w' base b q mb (n+1) (C.set (q+1) sv') sv' (upL (h++[x]) h.length) F'/\Placed (upL (h++[x]) h.length) F')/\Kf (fun k=>k=mb\/sv'.ownBlock=some k) u1 w') :=
  up_any base b q mb (n+1) _ sv' (h++[x]) _ h.length (by simp) hn kh u1 B1.out P1.out
 go_wp2_with fail
 refine LC.out.mono ?_
 rintro e u1' ⟨rfl,rfl⟩
 go_wp2_with fail
 refine UC.out.mono ?_
 rintro e u2 ⟨rfl,⟨F',hB2,hP2⟩,hk2⟩
 have B2:Hid (Bl u2 base b q mb (n+1) (C.set (q+1) sv') sv' (upL (h++[x]) h.length) F'/\Placed (upL (h++[x]) h.length) F'):=⟨hB2,hP2⟩
 have K2:Hid (Kf (fun k=>k=b\/k=mb\/sv.ownBlock=some k) w u2):=K1.out.next hk2 (fun j hj e=>by
  rcases e with e | e
  . exact Or.inr (Or.inl e)
  . rcases S1.out with s | ⟨g,s,lg⟩
    . exact Or.inr (Or.inr (s.symm.trans e))
    . rw [s] at e;have:=sia e;omega)
 clear hB2 hP2 hk2
 go_wp2_with fail
 go_end0
 exact ⟨sv',F',rfl,B2.out.1,B2.out.2,K2.out,S1.out⟩
def remH (h:List Int) (i:Nat):List Int :=
 if i+1=h.length then h else if i<(downS (swapL h i (h.length-1)) (h.length-1) i).2 then (downS (swapL h i (h.length-1)) (h.length-1) i).1 else upL (downS (swapL h i (h.length-1)) (h.length-1) i).1 i
def remL (h:List Int) (i:Nat):List Int:=(remH h i).dropLast
theorem remH_len (h:List Int) (i:Nat):(remH h i).length=h.length:=by
 unfold remH
 split
 . rfl
 . split
   . rw [down_len,swap_len]
   . rw [up_len,down_len,swap_len]
theorem remH_last (h:List Int) (i:Nat) (hi:i<h.length):(remH h i)[h.length-1]? =some h[i]:=by
 unfold remH
 split
 . rename_i c
   rw [show h.length-1=i by omega];exact List.getElem?_eq_getElem hi
 . rename_i c
   have sw:(swapL h i (h.length-1))[h.length-1]? =some h[i]:=by rw [swap_get h i (h.length-1) hi (by omega) (by omega),if_pos rfl]
   have dn:=down_get (swapL h i (h.length-1)) (h.length-1) i (by rw [swap_len];exact hi) (by rw [swap_len];omega) (by omega) (h.length-1) (Nat.le_refl _) (by omega)
   split
   . rw [dn,sw]
   . rw [up_get _ i (by rw [down_len,swap_len];exact hi) (h.length-1) (by omega),dn,sw]
theorem rem_split (h:List Int) (i:Nat) (hi:i<h.length):remH h i=remL h i++[h[i]]:=by
 have ne:remH h i≠[]:=fun e=>by have:=remH_len h i;rw [e] at this;simp at this;omega
 have g:=List.dropLast_concat_getLast ne
 have l:(remH h i).getLast ne=h[i]:=by
  rw [List.getLast_eq_getElem]
  have:=remH_last h i hi
  rw [List.getElem?_eq_getElem (by rw [remH_len];omega)] at this
  have e:=sia this
  rw [<- e]
  congr 1
  rw [remH_len]
 unfold remL
 rw [l] at g
 exact g.symm
theorem hrem_any (base b q mb n:Nat) (C:List Value) (sv:Value) (h:List Int) (F:Int->Option Int) (i:Nat) (hi:i<h.length) (hn:n<maxLen) (hl:h.length<=1048576) (w:World) (H:Bl w base b q mb n C sv h F) (hP:Placed h F) :
 Calls Tryz.prog 136 #[.iface 226 (.pointer (some ⟨b,q,none⟩)),.int .i64 i] w fun e w'=> ∃ sv' n' F',e=.returned (.iface 3 (.int .i64 h[i]))/\n'<=n/\Bl w' base b q mb n' (C.set (q+1) sv') sv' (remL h i) F'/\Placed (remL h i) F'/\Kf (fun k=>k=b\/k=mb\/sv.ownBlock=some k) w w'/\sv'.ownBlock=sv.ownBlock:=by
 obtain ⟨N,hN⟩: ∃ N,h.length=N+1:=⟨h.length-1,by omega⟩
 have LC:Hid (Calls Tryz.prog 85 #[.pointer (some ⟨b,q,none⟩)] w fun e w'=>e=.returned (.int .i64 ((N:Int)+1))/\w'=w):=by
  have q:=len_any base b _ mb _ _ _ _ _ w H
  rw [show (h.length:Int)=(N:Int)+1 by omega] at q
  exact q
 have hx:0<=h[i]/\h[i]<1048576:=hP.2.2 _ (List.getElem_mem hi)
 have RS:=rem_split h i hi
 have rl:(remL h i).length=N:=by have:=congrArg List.length RS;rw [remH_len] at this;simp at this;omega
 obtain ⟨x,hxx⟩: ∃ x,h[i]=x:=⟨_,rfl⟩
 rw [hxx] at hx RS |-
 have PO':Hid (∀ (W:World) (F1:Int->Option Int),Bl W base b q mb n C sv (remH h i) F1->Placed (remH h i) F1->Kf (fun k=>k=mb\/sv.ownBlock=some k) w W->Calls Tryz.prog 178 #[.pointer (some ⟨b,q,none⟩)] W fun e w'=> ∃ sv' n' F',e=.returned (.iface 3 (.int .i64 x))/\n'<=n/\Bl w' base b q mb n' (C.set (q+1) sv') sv' (remL h i) F'/\Placed (remL h i) F'/\Kf (fun k=>k=b\/k=mb\/sv.ownBlock=some k) w w'/\sv'.ownBlock=sv.ownBlock):=fun W F1 hB hPl hK=>by
  rw [RS] at hB hPl
  refine (pop_any base b q mb n C sv (remL h i) F1 x hx (by omega) W hB).mono ?_
  rintro e w' ⟨sv',n',he,hn',hB',hK',hs'⟩
  refine ⟨sv',n',_,he,hn',hB',hPl.pop.1,?_,hs'⟩
  have k1:Kf (fun k=>k=b\/k=mb\/sv.ownBlock=some k) w W:=⟨hK.os,hK.tape,hK.output,hK.size,fun j hj hS=>hK.block j hj (fun e=>hS (Or.inr e))⟩
  exact k1.next hK' (fun j _ e=>e)
 by_cases c:i=N
 . have e0:remH h i=h:=by unfold remH;rw [if_pos (by omega)]
   have PC:Hid (Calls Tryz.prog 178 #[.pointer (some ⟨b,q,none⟩)] w fun e w'=> ∃ sv' n' F',e=.returned (.iface 3 (.int .i64 x))/\n'<=n/\Bl w' base b q mb n' (C.set (q+1) sv') sv' (remL h i) F'/\Placed (remL h i) F'/\Kf (fun k=>k=b\/k=mb\/sv.ownBlock=some k) w w'/\sv'.ownBlock=sv.ownBlock):=PO'.out w F (by rw [e0];exact H) (by rw [e0];exact hP) (Kf.refl _ _)
   clear H hP RS PO' e0 hxx
   subst c
   have nb:((i:Int) != (i:Int))=false:=by simp
   go_enter Tryz.func136,Tryz.ntmps136
   go_wp2_with fail
   refine LC.out.mono ?_
   rintro e w' ⟨rfl,rfl⟩
   go_wp2_with fail
   refine Calls.mono PC.out ?_
   rintro e u2 ⟨sv',n',F',rfl,p1,p2,p3,p4,p5⟩
   have PP:Hid (n'<=n/\Bl u2 base b q mb n' (C.set (q+1) sv') sv' (remL h i) F'/\Placed (remL h i) F'/\Kf (fun k=>k=b\/k=mb\/sv.ownBlock=some k) w' u2/\sv'.ownBlock=sv.ownBlock):=⟨p1,p2,p3,p4,p5⟩
   clear p1 p2 p3 p4 p5
   go_wp2_with fail
   go_ret
   exact ⟨sv',n',F',rfl,PP.out⟩
 . have iN:i<N:=by omega
   have SC:=swap_any base b q mb n C sv h F i N hi (by omega) (by omega) hn (by omega) w H hP
   have SC':Hid (Calls Tryz.prog 180 (sf (.pointer (some ⟨b,q,none⟩)) i N) w fun e w'=>e=.returned (.tuple #[])/\Bl w' base b q mb n C sv (swapL h i N) (setF (setF F h[N] (some (i:Int))) h[i] (some (N:Int)))/\Kf (fun k=>k=mb\/sv.ownBlock=some k) w w'):=SC
   have PS:Hid (Placed (swapL h i N) (setF (setF F h[N] (some (i:Int))) h[i] (some (N:Int)))):=hP.swap i N hi (by omega) (by omega)
   have DC:Hid (∀ W:World,Bl W base b q mb n C sv (swapL h i N) (setF (setF F h[N] (some (i:Int))) h[i] (some (N:Int)))->Calls Tryz.prog 150 #[.iface 226 (.pointer (some ⟨b,q,none⟩)),.int .i64 i,.int .i64 N] W fun e w'=>e=.returned (.bool (decide (i<(downS (swapL h i N) N i).2)))/\(∃ F',Bl w' base b q mb n C sv (downS (swapL h i N) N i).1 F'/\Placed (downS (swapL h i N) N i).1 F')/\Kf (fun k=>k=mb\/sv.ownBlock=some k) W w'):=fun W hW=>down_any base b q mb n C sv (swapL h i N) _ i N (by rw [swap_len];exact hi) (by rw [swap_len];omega) hn (by rw [swap_len];exact hl) W hW PS.out
   obtain ⟨z,hz⟩: ∃ z,decide (i<(downS (swapL h i N) N i).2)=z:=⟨_,rfl⟩
   rw [hz] at DC
   have RH:Hid (remH h i=if z=true then (downS (swapL h i N) N i).1 else upL (downS (swapL h i N) N i).1 i):=by
    show _=_
    unfold remH
    rw [if_neg (by omega),show h.length-1=N by omega,<- hz]
    by_cases d:i<(downS (swapL h i N) N i).2
    . rw [if_pos d,if_pos (decide_eq_true d)]
    . rw [if_neg d,if_neg (by rw [decide_eq_false d];simp)]
   have UC:Hid (∀ (W:World) (F1:Int->Option Int),Bl W base b q mb n C sv (downS (swapL h i N) N i).1 F1->Placed (downS (swapL h i N) N i).1 F1->Calls Tryz.prog 151 #[.iface 226 (.pointer (some ⟨b,q,none⟩)),.int .i64 i] W fun e w'=>e=.returned (.tuple #[])/\(∃ F',Bl w' base b q mb n C sv (upL (downS (swapL h i N) N i).1 i) F'/\Placed (upL (downS (swapL h i N) N i).1 i) F')/\Kf (fun k=>k=mb\/sv.ownBlock=some k) W w'):=fun W F1 hW hPW=>up_any base b q mb n C sv _ F1 i (by rw [down_len,swap_len];exact hi) hn (by rw [down_len,swap_len];exact hl) W hW hPW
   have nb:((N:Int) != (i:Int))=true:=kh
   clear SC H hP RS hz hxx
   go_enter Tryz.func136,Tryz.ntmps136
   go_wp2_with fail
   refine LC.out.mono ?_
   rintro e w' ⟨rfl,rfl⟩
   go_wp2_with fail
   refine SC'.out.mono ?_
   rintro e u1 ⟨rfl,hB1,hk1⟩
   have D1:Hid _:=DC.out u1 hB1
   have K1:Hid (Kf (fun k=>k=mb\/sv.ownBlock=some k) w' u1):=hk1
   clear hB1 hk1 SC' DC
   go_wp2_with fail
   refine Calls.mono D1.out ?_
   rintro e u2 ⟨rfl,⟨F2,hB2,hP2⟩,hk2⟩
   have K2:Hid (Kf (fun k=>k=mb\/sv.ownBlock=some k) w' u2):=K1.out.trans hk2
   cases z
   . have U1:Hid _:=UC.out u2 F2 hB2 hP2
     have RH':Hid (remH h i=upL (downS (swapL h i N) N i).1 i):=RH.out.trans (if_neg (by simp))
     clear hB2 hP2 hk2 D1 K1 RH UC
     go_wp2_with fail
     refine Calls.mono U1.out ?_
     rintro e u3 ⟨rfl,⟨F3,hB3,hP3⟩,hk3⟩
     have PC:Hid _:=PO'.out u3 F3 (by rw [RH'.out];exact hB3) (by rw [RH'.out];exact hP3) (K2.out.trans hk3)
     clear hB3 hP3 hk3 U1 K2
     go_wp2_with fail
     refine Calls.mono PC.out ?_
     rintro e u4 ⟨sv',n',F',rfl,p1,p2,p3,p4,p5⟩
     have PP:Hid (n'<=n/\Bl u4 base b q mb n' (C.set (q+1) sv') sv' (remL h i) F'/\Placed (remL h i) F'/\Kf (fun k=>k=b\/k=mb\/sv.ownBlock=some k) w' u4/\sv'.ownBlock=sv.ownBlock):=⟨p1,p2,p3,p4,p5⟩
     clear p1 p2 p3 p4 p5
     go_wp2_with fail
     go_ret
     exact ⟨sv',n',F',rfl,PP.out⟩
   . have RH':Hid (remH h i=(downS (swapL h i N) N i).1):=RH.out.trans (if_pos rfl)
     have PC:Hid _:=PO'.out u2 F2 (by rw [RH'.out];exact hB2) (by rw [RH'.out];exact hP2) K2.out
     clear hB2 hP2 hk2 D1 K1 RH UC K2
     go_wp2_with fail
     refine Calls.mono PC.out ?_
     rintro e u4 ⟨sv',n',F',rfl,p1,p2,p3,p4,p5⟩
     have PP:Hid (n'<=n/\Bl u4 base b q mb n' (C.set (q+1) sv') sv' (remL h i) F'/\Placed (remL h i) F'/\Kf (fun k=>k=b\/k=mb\/sv.ownBlock=some k) w' u4/\sv'.ownBlock=sv.ownBlock):=⟨p1,p2,p3,p4,p5⟩
     clear p1 p2 p3 p4 p5
     go_wp2_with fail
     go_ret
     exact ⟨sv',n',F',rfl,PP.out⟩
def HeapTo (h:List Int) (m:Nat):Prop:= ∀ i,0<i->i<m->h.getD ((i-1) / 2) 0<=h.getD i 0
theorem swap_getD (h:List Int) (i j:Nat) (hi:i<h.length) (hj:j<h.length) (n:i≠j) (k:Nat):(swapL h i j).getD k 0=if k=j then h.getD i 0 else if k=i then h.getD j 0 else h.getD k 0:=by
 rw [List.getD_eq_getElem?_getD,swap_get h i j hi hj n k]
 split
 . rw [getD_at h i hi];rfl
 . split
   . rw [getD_at h j hj];rfl
   . rw [List.getD_eq_getElem?_getD]
def UpInv (h:List Int) (m j:Nat):Prop:=(∀ i,0<i->i<m->i≠j->h.getD ((i-1) / 2) 0<=h.getD i 0)/\(∀ i,0<i->i<m->(i-1) / 2=j->0<j->h.getD ((j-1) / 2) 0<=h.getD i 0)
theorem up_heap (h:List Int) (m j:Nat) (hj:j<h.length) (hm:m<=h.length) (H:UpInv h m j):HeapTo (upL h j) m:=by
 fun_induction upL h j with
 | case1 h =>
  intro i i0 im
  exact H.1 i i0 im (by omega)
 | case2 h j j0 c ih =>
  have sg:=swap_getD h ((j-1) / 2) j (by omega) hj (by omega)
  refine ih (by rw [swap_len];omega) (by rw [swap_len];exact hm) ⟨fun i i0 im hne=> ?_,fun i i0 im hp p0=> ?_⟩
  . rw [sg,sg]
    by_cases a:i=j
    . subst a
      rw [if_neg (by omega),if_pos rfl,if_pos rfl];omega
    . rw [if_neg a,if_neg hne]
      by_cases q:(i-1) / 2=j
      . rw [if_pos q]
        exact H.2 i i0 im q (by omega)
      . rw [if_neg q]
        by_cases r:(i-1) / 2=(j-1) / 2
        . rw [if_pos r]
          have:=H.1 i i0 im a
          rw [r] at this
          omega
        . rw [if_neg r];exact H.1 i i0 im a
  . rw [sg,sg,if_neg (by omega),if_neg (by omega)]
    have e1:=H.1 ((j-1) / 2) p0 (by omega) (by omega)
    by_cases a:i=j
    . rw [if_pos a];exact e1
    . rw [if_neg a,if_neg (by omega)]
      have e2:=H.1 i i0 im a
      rw [hp] at e2
      omega
 | case3 h j j0 c =>
  intro i i0 im
  by_cases a:i=j
  . subst a;omega
  . exact H.1 i i0 im a
def DnInv (h:List Int) (m i:Nat):Prop:=(∀ k,0<k->k<m->k≠i->(k-1) / 2≠i->h.getD ((k-1) / 2) 0<=h.getD k 0)/\(∀ k,0<k->k<m->(k-1) / 2=i->0<i->h.getD ((i-1) / 2) 0<=h.getD k 0)
theorem kid_least (h:List Int) (m i k:Nat) (hm:2*i+1<m) (k0:0<k) (km:k<m) (hk:(k-1) / 2=i):h.getD (kidL h m i) 0<=h.getD k 0:=by
 unfold kidL
 rcases (show k=2*i+1\/k=2*i+2 by omega) with rfl | rfl
 . split <;> omega
 . split
   . omega
   . rename_i c
     omega
theorem kid_par (h:List Int) (m i:Nat):(kidL h m i-1) / 2=i:=by unfold kidL;split <;> omega
theorem down_heap (h:List Int) (m i:Nat) (hi:i<m) (hm:m<=h.length) (H:DnInv h m i) (hp:0<i->h.getD ((i-1) / 2) 0<=h.getD i 0):HeapTo (downS h m i).1 m:=by
 fun_induction downS h m i with
 | case1 h i hm' c ih =>
  have kb:=kid_bd h m i hm'
  have kp:=kid_par h m i
  have sg:=swap_getD h i (kidL h m i) (by omega) (by omega) (by omega)
  refine ih kb.2 (by rw [swap_len];exact hm) ⟨fun k k0 km hne hnp=> ?_,fun k k0 km hk kd0=> ?_⟩ (fun _=> ?_)
  . rw [sg,sg,if_neg hnp,if_neg hne]
    by_cases a:k=i
    . subst a
      rw [if_neg (by omega),if_pos rfl]
      exact H.2 (kidL h m k) (by omega) kb.2 kp (by omega)
    . rw [if_neg a]
      by_cases q:(k-1) / 2=i
      . rw [if_pos q];exact kid_least h m i k hm' k0 km q
      . rw [if_neg q];exact H.1 k k0 km a q
  . rw [sg,sg,kp,if_neg (by omega),if_pos rfl,if_neg (by omega),if_neg (by omega)]
    have:=H.1 k k0 km (by omega) (by omega)
    rw [hk] at this;exact this
  . rw [sg,sg,kp,if_neg (by omega),if_pos rfl,if_pos rfl];omega
 | case2 h i hm' c =>
  show HeapTo h m
  intro k k0 km
  by_cases a:k=i
  . subst a;exact hp k0
  . by_cases q:(k-1) / 2=i
    . rw [q]
      have:=kid_least h m i k hm' k0 km q
      omega
    . exact H.1 k k0 km a q
 | case3 h i hm' =>
  show HeapTo h m
  intro k k0 km
  by_cases a:k=i
  . subst a;exact hp k0
  . exact H.1 k k0 km a (by omega)
theorem down_stays (h:List Int) (m i:Nat) (hs: ¬ i<(downS h m i).2):(downS h m i).1=h/\ ∀ k,0<k->k<m->(k-1) / 2=i->h.getD i 0<=h.getD k 0:=by
 have mono: ∀ (h:List Int) (m i:Nat),i<=(downS h m i).2:=by
  intro h m i
  fun_induction downS h m i with
  | case1 h i hm' c ih => have := kid_bd h m i hm'; omega
  | case2 => exact Nat.le_refl _
  | case3 => exact Nat.le_refl _
 rw [downS] at hs |-
 by_cases c1:2*i+1<m
 . rw [dif_pos c1] at hs |-
   by_cases c2:h.getD (kidL h m i) 0<h.getD i 0
   . rw [if_pos c2] at hs
     have a:=mono (swapL h i (kidL h m i)) m (kidL h m i)
     have b:=kid_bd h m i c1
     omega
   . rw [if_neg c2]
     refine ⟨rfl,fun k k0 km hk=> ?_⟩
     have:=kid_least h m i k c1 k0 km hk
     omega
 . rw [dif_neg c1]
   exact ⟨rfl,fun k k0 km hk=>by omega⟩
theorem down_moves (h:List Int) (m i:Nat) (hs:i<(downS h m i).2):2*i+1<m/\h.getD (kidL h m i) 0<h.getD i 0:=by
 rw [downS] at hs
 by_cases c1:2*i+1<m
 . rw [dif_pos c1] at hs
   by_cases c2:h.getD (kidL h m i) 0<h.getD i 0
   . exact ⟨c1,c2⟩
   . rw [if_neg c2] at hs;simp at hs
 . rw [dif_neg c1] at hs;simp at hs
theorem push_heap (h:List Int) (x:Int) (H:HeapTo h h.length):HeapTo (upL (h++[x]) h.length) (h.length+1):=by
 have g: ∀ k,k<h.length->(h++[x]).getD k 0=h.getD k 0:=fun k hk=>by rw [List.getD_eq_getElem?_getD,List.getElem?_append_left hk,<- List.getD_eq_getElem?_getD]
 refine up_heap (h++[x]) (h.length+1) h.length (by simp) (by simp) ⟨fun i i0 im hne=> ?_,fun i i0 im hp p0=>by omega⟩
 rw [g _ (by omega),g _ (by omega)]
 exact H i i0 (by omega)
theorem rem_heap (h:List Int) (i:Nat) (hi:i<h.length) (H:HeapTo h h.length):HeapTo (remH h i) (h.length-1):=by
 unfold remH
 split
 . intro k k0 km;exact H k k0 (by omega)
 . rename_i c
   have sg:=swap_getD h i (h.length-1) hi (by omega) (by omega)
   have dn:DnInv (swapL h i (h.length-1)) (h.length-1) i:=⟨fun k k0 km a b=>by
    rw [sg,sg,if_neg (by omega),if_neg b,if_neg (by omega),if_neg a];exact H k k0 (by omega),fun k k0 km hk i0=>by
    rw [sg,sg,if_neg (by omega),if_neg (by omega),if_neg (by omega),if_neg (by omega)]
    have a:=H k k0 (by omega)
    have b:=H i i0 (by omega)
    rw [hk] at a;omega⟩
   split
   . rename_i d
     obtain ⟨d1,d2⟩:=down_moves _ _ _ d
     refine down_heap _ _ i (by omega) (by rw [swap_len];omega) dn (fun i0=> ?_)
     have kp:=kid_par (swapL h i (h.length-1)) (h.length-1) i
     have kb:=kid_bd (swapL h i (h.length-1)) (h.length-1) i d1
     have:=dn.2 _ (by omega) kb.2 kp i0
     omega
   . rename_i d
     obtain ⟨d1,d2⟩:=down_stays _ _ _ d
     rw [d1]
     refine up_heap _ _ i (by rw [swap_len];exact hi) (by rw [swap_len];omega) ⟨fun k k0 km a=> ?_,fun k k0 km hk i0=>dn.2 k k0 km hk i0⟩
     by_cases q:(k-1) / 2=i
     . rw [q];exact d2 k k0 km q
     . exact dn.1 k k0 km a q
theorem heap_least (h:List Int) (H:HeapTo h h.length): ∀ k,k<h.length->h.getD 0 0<=h.getD k 0:=by
 intro k
 induction k using Nat.strongRecOn with
 | _ k ih =>
  intro hk
  by_cases k0:k=0
  . subst k0;exact Int.le_refl _
  . have a:=ih ((k-1) / 2) (by omega) (by omega)
    have b:=H k (by omega) hk
    omega
end Go.Proofs.YtgbdnnkkcpkhdaaGreatDoor.Bd
