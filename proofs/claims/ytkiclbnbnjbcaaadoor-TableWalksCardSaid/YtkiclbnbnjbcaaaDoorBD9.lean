import Derived.Test.YtkiclbnbnjbcaaaDoorBD8
namespace Go.Proofs.YtkiclbnbnjbcaaaDoor.Bd
open Go.ChangeShapes Go.WideShapes Go.ChangeAt Go.RowKit Go.Maps
set_option linter.unusedSimpArgs false
set_option linter.unusedVariables false
set_option maxRecDepth 8000
def remH (h:List Int) (i:Nat):List Int :=
 if i+1=h.length then h else if i<(downS (swapL h i (h.length-1)) (h.length-1) i).2 then (downS (swapL h i (h.length-1)) (h.length-1) i).1 else upL (downS (swapL h i (h.length-1)) (h.length-1) i).1 i
def remL (h:List Int) (i:Nat):List Int:=(remH h i).dropLast
theorem remH_len (h:List Int) (i:Nat):(remH h i).length=h.length:=by
 unfold remH
 split
 . rfl
 . split
   . rw [down_len,swap_len]
   . rw [up_len,down_len,swap_len]
theorem remH_last (h:List Int) (i:Nat) (hi:i<h.length):(remH h i)[h.length-1]? =some h[i]:=by
 unfold remH
 split
 . rename_i c
   rw [show h.length-1=i by omega];exact List.getElem?_eq_getElem hi
 . rename_i c
   have sw:(swapL h i (h.length-1))[h.length-1]? =some h[i]:=by rw [swap_get h i (h.length-1) hi (by omega) (by omega),if_pos rfl]
   have dn:=down_get (swapL h i (h.length-1)) (h.length-1) i (by rw [swap_len];exact hi) (by rw [swap_len];omega) (by omega) (h.length-1) (Nat.le_refl _) (by omega)
   split
   . rw [dn,sw]
   . rw [up_get _ i (by rw [down_len,swap_len];exact hi) (h.length-1) (by omega),dn,sw]
theorem rem_split (h:List Int) (i:Nat) (hi:i<h.length):remH h i=remL h i++[h[i]]:=by
 have ne:remH h i≠[]:=fun e=>by have:=remH_len h i;rw [e] at this;simp at this;omega
 have g:=List.dropLast_concat_getLast ne
 have l:(remH h i).getLast ne=h[i]:=by
  rw [List.getLast_eq_getElem]
  have:=remH_last h i hi
  rw [List.getElem?_eq_getElem (by rw [remH_len];omega)] at this
  have e:=Option.some.inj this
  rw [<- e]
  congr 1
  rw [remH_len]
 unfold remL
 rw [l] at g
 exact g.symm
set_option maxHeartbeats 2000000 in
theorem hrem_any (base b q mb n:Nat) (C:List Value) (sv:Value) (h:List Int) (F:Int->Option Int) (i:Nat) (hi:i<h.length) (hn:n<maxLen) (hl:h.length<=1048576) (w:World) (H:Bl w base b q mb n C sv h F) (hP:Placed h F) :
 Calls Tryd.prog 94 #[.iface 152 (.pointer (some ⟨b,q,none⟩)),.int .i64 i] w fun e w'=> ∃ sv' n' F',e=.returned (.iface 3 (.int .i64 h[i]))/\n'<=n/\Bl w' base b q mb n' (C.set (q+1) sv') sv' (remL h i) F'/\Placed (remL h i) F'/\Kf (fun k=>k=b\/k=mb\/sv.ownBlock=some k) w w'/\sv'.ownBlock=sv.ownBlock:=by
 obtain ⟨N,hN⟩: ∃ N,h.length=N+1:=⟨h.length-1,by omega⟩
 have LC:Hid (Calls Tryd.prog 44 #[.pointer (some ⟨b,q,none⟩)] w fun e w'=>e=.returned (.int .i64 ((N:Int)+1))/\w'=w):=by
  have q:=len_any base b _ mb _ _ _ _ _ w H
  rw [show (h.length:Int)=(N:Int)+1 by omega] at q
  exact q
 have hx:0<=h[i]/\h[i]<1048576:=hP.2.2 _ (List.getElem_mem hi)
 have RS:=rem_split h i hi
 have rl:(remL h i).length=N:=by have:=congrArg List.length RS;rw [remH_len] at this;simp at this;omega
 obtain ⟨x,hxx⟩: ∃ x,h[i]=x:=⟨_,rfl⟩
 rw [hxx] at hx RS |-
 have PO':Hid (∀ (W:World) (F1:Int->Option Int),Bl W base b q mb n C sv (remH h i) F1->Placed (remH h i) F1->Kf (fun k=>k=mb\/sv.ownBlock=some k) w W->Calls Tryd.prog 116 #[.pointer (some ⟨b,q,none⟩)] W fun e w'=> ∃ sv' n' F',e=.returned (.iface 3 (.int .i64 x))/\n'<=n/\Bl w' base b q mb n' (C.set (q+1) sv') sv' (remL h i) F'/\Placed (remL h i) F'/\Kf (fun k=>k=b\/k=mb\/sv.ownBlock=some k) w w'/\sv'.ownBlock=sv.ownBlock):=fun W F1 hB hPl hK=>by
  rw [RS] at hB hPl
  refine (pop_any base b q mb n C sv (remL h i) F1 x hx (by omega) W hB).mono ?_
  rintro e w' ⟨sv',n',he,hn',hB',hK',hs'⟩
  refine ⟨sv',n',_,he,hn',hB',hPl.pop.1,?_,hs'⟩
  have k1:Kf (fun k=>k=b\/k=mb\/sv.ownBlock=some k) w W:=⟨hK.os,hK.tape,hK.output,hK.size,fun j hj hS=>hK.block j hj (fun e=>hS (Or.inr e))⟩
  exact k1.next hK' (fun j _ e=>e)
 by_cases c:i=N
 . have e0:remH h i=h:=by unfold remH;rw [if_pos (by omega)]
   have PC:Hid (Calls Tryd.prog 116 #[.pointer (some ⟨b,q,none⟩)] w fun e w'=> ∃ sv' n' F',e=.returned (.iface 3 (.int .i64 x))/\n'<=n/\Bl w' base b q mb n' (C.set (q+1) sv') sv' (remL h i) F'/\Placed (remL h i) F'/\Kf (fun k=>k=b\/k=mb\/sv.ownBlock=some k) w w'/\sv'.ownBlock=sv.ownBlock):=PO'.out w F (by rw [e0];exact H) (by rw [e0];exact hP) (Kf.refl _ _)
   clear H hP RS PO' e0 hxx
   subst c
   have nb:((i:Int) != (i:Int))=false:=by simp
   go_enter Tryd.func94,Tryd.ntmps94
   go_wp2_with fail
   refine LC.out.mono ?_
   rintro e w' ⟨rfl,rfl⟩
   go_wp2_with fail
   refine Calls.mono PC.out ?_
   rintro e u2 ⟨sv',n',F',rfl,p1,p2,p3,p4,p5⟩
   have PP:Hid (n'<=n/\Bl u2 base b q mb n' (C.set (q+1) sv') sv' (remL h i) F'/\Placed (remL h i) F'/\Kf (fun k=>k=b\/k=mb\/sv.ownBlock=some k) w' u2/\sv'.ownBlock=sv.ownBlock):=⟨p1,p2,p3,p4,p5⟩
   clear p1 p2 p3 p4 p5
   go_wp2_with fail
   go_ret
   exact ⟨sv',n',F',rfl,PP.out⟩
 . have iN:i<N:=by omega
   have SC:=swap_any base b q mb n C sv h F i N hi (by omega) (by omega) hn (by omega) w H hP
   have SC':Hid (Calls Tryd.prog 118 #[.pointer (some ⟨b,q,none⟩),.int .i64 i,.int .i64 N] w fun e w'=>e=.returned (.tuple #[])/\Bl w' base b q mb n C sv (swapL h i N) (setF (setF F h[N] (some (i:Int))) h[i] (some (N:Int)))/\Kf (fun k=>k=mb\/sv.ownBlock=some k) w w'):=SC
   have PS:Hid (Placed (swapL h i N) (setF (setF F h[N] (some (i:Int))) h[i] (some (N:Int)))):=hP.swap i N hi (by omega) (by omega)
   have DC:Hid (∀ W:World,Bl W base b q mb n C sv (swapL h i N) (setF (setF F h[N] (some (i:Int))) h[i] (some (N:Int)))->Calls Tryd.prog 96 #[.iface 152 (.pointer (some ⟨b,q,none⟩)),.int .i64 i,.int .i64 N] W fun e w'=>e=.returned (.bool (decide (i<(downS (swapL h i N) N i).2)))/\(∃ F',Bl w' base b q mb n C sv (downS (swapL h i N) N i).1 F'/\Placed (downS (swapL h i N) N i).1 F')/\Kf (fun k=>k=mb\/sv.ownBlock=some k) W w'):=fun W hW=>down_any base b q mb n C sv (swapL h i N) _ i N (by rw [swap_len];exact hi) (by rw [swap_len];omega) hn (by rw [swap_len];exact hl) W hW PS.out
   obtain ⟨z,hz⟩: ∃ z,decide (i<(downS (swapL h i N) N i).2)=z:=⟨_,rfl⟩
   rw [hz] at DC
   have RH:Hid (remH h i=if z=true then (downS (swapL h i N) N i).1 else upL (downS (swapL h i N) N i).1 i):=by
    show _=_
    unfold remH
    rw [if_neg (by omega),show h.length-1=N by omega,<- hz]
    by_cases d:i<(downS (swapL h i N) N i).2
    . rw [if_pos d,if_pos (decide_eq_true d)]
    . rw [if_neg d,if_neg (by rw [decide_eq_false d];simp)]
   have UC:Hid (∀ (W:World) (F1:Int->Option Int),Bl W base b q mb n C sv (downS (swapL h i N) N i).1 F1->Placed (downS (swapL h i N) N i).1 F1->Calls Tryd.prog 97 #[.iface 152 (.pointer (some ⟨b,q,none⟩)),.int .i64 i] W fun e w'=>e=.returned (.tuple #[])/\(∃ F',Bl w' base b q mb n C sv (upL (downS (swapL h i N) N i).1 i) F'/\Placed (upL (downS (swapL h i N) N i).1 i) F')/\Kf (fun k=>k=mb\/sv.ownBlock=some k) W w'):=fun W F1 hW hPW=>up_any base b q mb n C sv _ F1 i (by rw [down_len,swap_len];exact hi) hn (by rw [down_len,swap_len];exact hl) W hW hPW
   have nb:((N:Int) != (i:Int))=true:=by simp;omega
   clear SC H hP RS hz hxx
   go_enter Tryd.func94,Tryd.ntmps94
   go_wp2_with fail
   refine LC.out.mono ?_
   rintro e w' ⟨rfl,rfl⟩
   go_wp2_with fail
   refine SC'.out.mono ?_
   rintro e u1 ⟨rfl,hB1,hk1⟩
   have D1:Hid _:=DC.out u1 hB1
   have K1:Hid (Kf (fun k=>k=mb\/sv.ownBlock=some k) w' u1):=hk1
   clear hB1 hk1 SC' DC
   go_wp2_with fail
   refine Calls.mono D1.out ?_
   rintro e u2 ⟨rfl,⟨F2,hB2,hP2⟩,hk2⟩
   have K2:Hid (Kf (fun k=>k=mb\/sv.ownBlock=some k) w' u2):=K1.out.trans hk2
   cases z
   . have U1:Hid _:=UC.out u2 F2 hB2 hP2
     have RH':Hid (remH h i=upL (downS (swapL h i N) N i).1 i):=RH.out.trans (if_neg (by simp))
     clear hB2 hP2 hk2 D1 K1 RH UC
     go_wp2_with fail
     refine Calls.mono U1.out ?_
     rintro e u3 ⟨rfl,⟨F3,hB3,hP3⟩,hk3⟩
     have PC:Hid _:=PO'.out u3 F3 (by rw [RH'.out];exact hB3) (by rw [RH'.out];exact hP3) (K2.out.trans hk3)
     clear hB3 hP3 hk3 U1 K2
     go_wp2_with fail
     refine Calls.mono PC.out ?_
     rintro e u4 ⟨sv',n',F',rfl,p1,p2,p3,p4,p5⟩
     have PP:Hid (n'<=n/\Bl u4 base b q mb n' (C.set (q+1) sv') sv' (remL h i) F'/\Placed (remL h i) F'/\Kf (fun k=>k=b\/k=mb\/sv.ownBlock=some k) w' u4/\sv'.ownBlock=sv.ownBlock):=⟨p1,p2,p3,p4,p5⟩
     clear p1 p2 p3 p4 p5
     go_wp2_with fail
     go_ret
     exact ⟨sv',n',F',rfl,PP.out⟩
   . have RH':Hid (remH h i=(downS (swapL h i N) N i).1):=RH.out.trans (if_pos rfl)
     have PC:Hid _:=PO'.out u2 F2 (by rw [RH'.out];exact hB2) (by rw [RH'.out];exact hP2) K2.out
     clear hB2 hP2 hk2 D1 K1 RH UC K2
     go_wp2_with fail
     refine Calls.mono PC.out ?_
     rintro e u4 ⟨sv',n',F',rfl,p1,p2,p3,p4,p5⟩
     have PP:Hid (n'<=n/\Bl u4 base b q mb n' (C.set (q+1) sv') sv' (remL h i) F'/\Placed (remL h i) F'/\Kf (fun k=>k=b\/k=mb\/sv.ownBlock=some k) w' u4/\sv'.ownBlock=sv.ownBlock):=⟨p1,p2,p3,p4,p5⟩
     clear p1 p2 p3 p4 p5
     go_wp2_with fail
     go_ret
     exact ⟨sv',n',F',rfl,PP.out⟩
end Go.Proofs.YtkiclbnbnjbcaaaDoor.Bd
