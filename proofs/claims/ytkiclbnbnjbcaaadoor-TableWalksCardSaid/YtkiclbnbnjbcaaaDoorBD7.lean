import Derived.Test.YtkiclbnbnjbcaaaDoorBD6
import Derived.Deep.DeepCutAuto
namespace Go.Proofs.YtkiclbnbnjbcaaaDoor.Bd
open Go.ChangeShapes Go.WideShapes Go.ChangeAt Go.RowKit Go.Maps
set_option linter.unusedSimpArgs false
set_option linter.unusedVariables false
set_option maxRecDepth 8000
def kidL (h:List Int) (m i:Nat):Nat:=if 2*i+2<m/\h.getD (2*i+2) 0<h.getD (2*i+1) 0 then 2*i+2 else 2*i+1
def downS (h:List Int) (m i:Nat):List Int × Nat :=
 if hm:2*i+1<m then (if h.getD (kidL h m i) 0<h.getD i 0 then downS (swapL h i (kidL h m i)) m (kidL h m i) else (h,i)) else (h,i)
termination_by m-i
decreasing_by unfold kidL;split <;> omega
theorem kid_bd (h:List Int) (m i:Nat) (hm:2*i+1<m):i<kidL h m i/\kidL h m i<m:=by unfold kidL;split <;> omega
theorem getD_at (h:List Int) (k:Nat) (hk:k<h.length):h.getD k 0=h[k]:=by rw [List.getD_eq_getElem?_getD,List.getElem?_eq_getElem hk];rfl
set_option maxHeartbeats 4000000 in
theorem down_any (base b q mb n:Nat) (C:List Value) (sv:Value) (h:List Int) (F:Int->Option Int) (i0 m:Nat) (hi0:i0<h.length) (hm:m<=h.length) (hn:n<maxLen) (hl:h.length<=1048576) (w:World) (H:Bl w base b q mb n C sv h F) (hP:Placed h F) :
 Calls Tryd.prog 96 #[.iface 152 (.pointer (some ⟨b,q,none⟩)),.int .i64 i0,.int .i64 m] w fun e w'=>e=.returned (.bool (decide (i0<(downS h m i0).2)))/\(∃ F',Bl w' base b q mb n C sv (downS h m i0).1 F'/\Placed (downS h m i0).1 F')/\Kf (fun k=>k=mb\/sv.ownBlock=some k) w w':=by
 have HH:Hid (Bl w base b q mb n C sv h F):=H
 have PP:Hid (Placed h F):=hP
 clear H hP
 go_enter Tryd.func96,Tryd.ntmps96
 go_wp2_with fail
 go_loopw [7] (fun v W=> ∃ (k:Nat) (h':List Int) (F':Int->Option Int),k<h.length/\v=.int .i64 k/\h'.length=h.length/\Hid (Bl W base b q mb n C sv h' F')/\Hid (Placed h' F')/\Hid (downS h' m k=downS h m i0)/\Hid (Kf (fun k=>k=mb\/sv.ownBlock=some k) w W)) (fun v _=>m-(intOf v).toNat)
 case atStart=>exact ⟨i0,h,F,hi0,rfl,rfl,HH,PP,rfl,Kf.refl _ _⟩
 case round =>
  obtain ⟨k,h',F',hk,rfl,hl',hB,hPl,hU,hK⟩:=hrel
  by_cases c1:2*k+1<m
  rotate_left
  . have d1:decide ((m:Int)<=2*(k:Int)+1)=true:=by simp;omega
    have O:Hid (downS h m i0=(h',k)):=hU.out.symm.trans (by rw [downS,dif_neg c1])
    have O2:Hid ((decide (i0<(downS h m i0).2))=decide ((i0:Int)<(k:Int))):=by show _=_;rw [O.out];simp
    clear hU
    go_wp2_with fail
    go_ret
    exact ⟨by rw [O.out];rfl,⟨F',by rw [O.out];exact hB.out,by rw [O.out];exact hPl.out⟩,hK.out⟩
  have d1:decide ((m:Int)<=2*(k:Int)+1)=false:=by simp;omega
  have d2:decide (2*(k:Int)+1<0)=false:=by simp;omega
  obtain ⟨kd,hkd⟩: ∃ kd,kidL h' m k=kd:=⟨_,rfl⟩
  have kb:=kid_bd h' m k c1
  rw [hkd] at kb
  obtain ⟨zz,hzz⟩: ∃ zz,(decide (2*k+2<m) && decide (h'.getD (2*k+2) 0<h'.getD (2*k+1) 0))=zz:=⟨_,rfl⟩
  have KD:Hid ((zz=true->kd=2*k+2)/\(zz=false->kd=2*k+1)):=by
   rw [<- hkd,<- hzz];unfold kidL
   constructor
   . intro q;rw [if_pos (by simpa using q)]
   . intro q;rw [if_neg (by simpa using q)]
  have lk:k<h'.length:=by omega
  have lkd:kd<h'.length:=by omega
  have kb1:=kb.1
  have kb2:=kb.2
  have ZZ:Hid ((decide (2*k+2<m) && decide (h'.getD (2*k+2) 0<h'.getD (2*k+1) 0))=zz):=hzz
  have LA:Hid (∀ (i j:Nat) (hi:i<h'.length) (hj:j<h'.length) (W:World),Bl W base b q mb n C sv h' F'->Calls Tryd.prog 115 #[.pointer (some ⟨b,q,none⟩),.int .i64 i,.int .i64 j] W fun e w'=>e=.returned (.bool (decide (h'.getD i 0<h'.getD j 0)))/\Below W.heap.size W w'):=fun i j hi hj W HW=>by
   rw [getD_at h' i hi,getD_at h' j hj];exact less_any base b q mb n C sv h' F' i j hi hj W HW
  have SC:=fun W HW=>swap_any base b q mb n C sv h' F' k kd lk lkd (by omega) hn (by omega) W HW hPl.out
  have SC':Hid (∀ W:World,Bl W base b q mb n C sv h' F'->Calls Tryd.prog 118 #[.pointer (some ⟨b,q,none⟩),.int .i64 k,.int .i64 kd] W fun e w'=>e=.returned (.tuple #[])/\Bl w' base b q mb n C sv (swapL h' k kd) (setF (setF F' h'[kd] (some (k:Int))) h'[k] (some (kd:Int)))/\Kf (fun k=>k=mb\/sv.ownBlock=some k) W w'):=SC
  have PS:Hid (Placed (swapL h' k kd) (setF (setF F' h'[kd] (some (k:Int))) h'[k] (some (kd:Int)))):=hPl.out.swap k kd lk lkd (by omega)
  obtain ⟨z2,hz2⟩: ∃ z,decide (h'.getD kd 0<h'.getD k 0)=z:=⟨_,rfl⟩
  have LC2:Hid (∀ W:World,Bl W base b q mb n C sv h' F'->Calls Tryd.prog 115 #[.pointer (some ⟨b,q,none⟩),.int .i64 kd,.int .i64 k] W fun e w'=>e=.returned (.bool z2)/\Below W.heap.size W w'):=fun W HW=>by rw [<- hz2];exact LA.out kd k lkd lk W HW
  have US:Hid (downS h' m k=if z2=true then downS (swapL h' k kd) m kd else (h',k)):=by
   show _=_
   rw [downS,dif_pos c1,hkd,<- hz2]
   by_cases c:h'.getD kd 0<h'.getD k 0
   . rw [if_pos c,if_pos (decide_eq_true c)]
   . rw [if_neg c,if_neg (by rw [decide_eq_false c];simp)]
  have SL:(swapL h' k kd).length=h.length:=by rw [swap_len];exact hl'
  clear SC hz2 hkd hzz kb
  go_upto_region 6 with fail
  go_cut [33] (fun v wx=>v=.bool zz/\Hid (Bl wx base b q mb n C sv h' F')/\Hid (Kf (fun k=>k=mb\/sv.ownBlock=some k) w wx))
  case first =>
   by_cases c2:2*k+2<m
   . have d3:decide (2*(k:Int)+1+1<(m:Int))=true:=by simp;omega
     have LC1:Hid (Calls Tryd.prog 115 #[.pointer (some ⟨b,q,none⟩),.int .i64 (2*(k:Int)+1+1),.int .i64 (2*(k:Int)+1)] wr fun e w'=>e=.returned (.bool zz)/\Below wr.heap.size wr w'):=by
      have q:=LA.out (2*k+2) (2*k+1) (by omega) (by omega) wr hB.out
      rw [<- ZZ.out,decide_eq_true c2,Bool.true_and]
      rw [show ((2*k+2:Nat):Int)=2*(k:Int)+1+1 by omega,show ((2*k+1:Nat):Int)=2*(k:Int)+1 by omega] at q
      exact q
     clear c2
     go_wp2_with fail
     refine LC1.out.mono ?_
     rintro e u1 ⟨rfl,hb⟩
     have B1:Hid (Bl u1 base b q mb n C sv h' F'):=hB.out.below hb
     have K1:Hid (Kf (fun k=>k=mb\/sv.ownBlock=some k) w u1):=hK.out.trans (Kf.below hb)
     clear hb
     go_wp2_with fail
     go_meet
     exact ⟨rfl,B1,K1⟩
   . have d3:decide (2*(k:Int)+1+1<(m:Int))=false:=by simp;omega
     have d3': ¬ (2*(k:Int)+1+1<(m:Int)):=by omega
     have z0:zz=false:=by rw [<- ZZ.out,decide_eq_false c2];rfl
     subst z0
     clear c2
     go_wp2_with fail
     go_meet
     exact ⟨rfl,hB,hK⟩
  clear hB hK LA ZZ
  obtain ⟨h33,hB,hK⟩:=hcut
  subst h33
  go_upto_if 33 with fail
  go_cut [9] (fun v wx=>v=.int .i64 kd/\wx=wc)
  case first =>
   have kd1:=KD.out.1
   have kd2:=KD.out.2
   clear KD
   cases zz
   . have e:=kd2 rfl
     clear kd1 kd2
     go_wp2_with fail
     go_meet
     exact ⟨by rw [e];go_num,rfl⟩
   . have e:=kd1 rfl
     clear kd1 kd2
     go_wp2_with fail
     go_meet
     exact ⟨by rw [e];go_num,rfl⟩
  obtain ⟨h9,hwc⟩:=hcut
  subst h9
  subst hwc
  clear KD d1 d2 c1
  go_wp2_with fail
  refine (LC2.out _ hB.out).mono ?_
  rintro e u1 ⟨rfl,hb⟩
  have B1:Hid (Bl u1 base b q mb n C sv h' F'):=hB.out.below hb
  have K1:Hid (Kf (fun k=>k=mb\/sv.ownBlock=some k) w u1):=hK.out.trans (Kf.below hb)
  clear hb hB hK LC2
  cases z2
  . have O:Hid (downS h m i0=(h',k)):=hU.out.symm.trans (US.out.trans (if_neg (by simp)))
    clear hU US SC' PS
    go_wp2_with fail
    go_ret
    exact ⟨by rw [O.out];rfl,⟨F',by rw [O.out];exact B1.out,by rw [O.out];exact hPl.out⟩,K1.out⟩
  . have O:Hid (downS (swapL h' k kd) m kd=downS h m i0):=(US.out.trans (if_pos rfl)).symm.trans hU.out
    clear hU US
    go_wp2_with fail
    refine (SC'.out _ B1.out).mono ?_
    rintro e u2 ⟨rfl,hB2,hk2⟩
    have B2:Hid (Bl u2 base b q mb n C sv (swapL h' k kd) (setF (setF F' h'[kd] (some (k:Int))) h'[k] (some (kd:Int)))):=hB2
    have K2:Hid (Kf (fun k=>k=mb\/sv.ownBlock=some k) w u2):=K1.out.trans hk2
    clear hB2 hk2 SC' B1 K1
    go_wp2_with fail
    go_roundw
    case rel=>exact ⟨kd,_,_,by omega,rfl,SL,B2,PS,O,K2⟩
    case measure=>simp [intOf];omega
end Go.Proofs.YtkiclbnbnjbcaaaDoor.Bd
