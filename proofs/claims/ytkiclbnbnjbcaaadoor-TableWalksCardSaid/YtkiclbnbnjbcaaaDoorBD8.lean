import Derived.Test.YtkiclbnbnjbcaaaDoorBD7
namespace Go.Proofs.YtkiclbnbnjbcaaaDoor.Bd
open Go.ChangeShapes Go.WideShapes Go.ChangeAt Go.RowKit Go.Maps
set_option linter.unusedSimpArgs false
set_option linter.unusedVariables false
set_option maxRecDepth 8000
theorem Kf.next {S S':Nat->Prop} {a b c:World} (h:Kf S a b) (k:Kf S' b c) (hS: ∀ j,j<a.heap.size->S' j->S j):Kf S a c:=⟨k.os.trans h.os,k.tape.trans h.tape,k.output.trans h.output,Nat.le_trans h.size k.size,fun j hj hn=>(k.block j (Nat.lt_of_lt_of_le hj h.size) (fun e=>hn (hS j hj e))).trans (h.block j hj hn)⟩
theorem Placed.push {h:List Int} {F:Int->Option Int} (H:Placed h F) (x:Int) (hx:0<=x/\x<1048576) (hF:F x=none):Placed (h++[x]) (setF F x (some (h.length:Int))):=by
 refine ⟨fun k hk=> ?_,fun a k e=> ?_,fun a ha=> ?_⟩
 . by_cases c:k<h.length
   . rw [List.getElem_append_left c]
     have e:=H.1 k c
     rw [set_other _ _ _ _ (fun q=>by rw [q,hF] at e;cases e)]
     exact e
   . have:k=h.length:=by rw [List.length_append] at hk;simp at hk;omega
     subst this
     rw [List.getElem_append_right (Nat.le_refl _)]
     simp only [Nat.sub_self,List.getElem_cons_zero]
     rw [set_same]
 . by_cases c:a=x
   . subst c
     rw [set_same] at e
     cases e
     exact ⟨h.length,rfl,by simp⟩
   . rw [set_other _ _ _ _ c] at e
     obtain ⟨m,rfl,hm⟩:=H.2.1 a k e
     exact ⟨m,rfl,by rw [List.getElem?_append_left (List.getElem?_eq_some_iff.1 hm).1];exact hm⟩
 . rcases List.mem_append.1 ha with q | q
   . exact H.2.2 a q
   . rw [List.mem_singleton.1 q];exact hx
theorem Placed.pop {h:List Int} {x:Int} {F:Int->Option Int} (H:Placed (h++[x]) F):Placed h (setF F x none)/\0<=x/\x<1048576:=by
 have hx:=H.2.2 x (by simp)
 have lx:F x=some (h.length:Int):=by
  have:=H.1 h.length (by simp)
  rw [List.getElem_append_right (Nat.le_refl _)] at this
  simpa using this
 refine ⟨⟨fun k hk=> ?_,fun a k e=> ?_,fun a ha=>H.2.2 a (List.mem_append_left _ ha)⟩,hx⟩
 . have e:=H.1 k (by rw [List.length_append];omega)
   rw [List.getElem_append_left hk] at e
   rw [set_other _ _ _ _ (fun q=>by rw [q,lx] at e;have:=Option.some.inj e;omega)]
   exact e
 . by_cases c:a=x
   . subst c;rw [set_same] at e;cases e
   . rw [set_other _ _ _ _ c] at e
     obtain ⟨m,rfl,hm⟩:=H.2.1 a k e
     refine ⟨m,rfl,?_⟩
     have lm:=(List.getElem?_eq_some_iff.1 hm).1
     by_cases d:m<h.length
     . rw [List.getElem?_append_left d] at hm;exact hm
     . have:m=h.length:=by rw [List.length_append] at lm;simp at lm;omega
       subst this
       simp at hm
       exact absurd hm.symm c
theorem up_len (h:List Int) (j:Nat):(upL h j).length=h.length:=by
 fun_induction upL h j with
 | case1 => rfl
 | case2 h j hj c ih => rw [ih, swap_len]
 | case3 => rfl
theorem up_get (h:List Int) (j:Nat) (hl:j<h.length) (k:Nat) (hk:j<k):(upL h j)[k]? =h[k]? :=by
 fun_induction upL h j with
 | case1 => rfl
 | case2 h j hj c ih => rw [ih (by rw [swap_len]; omega) (by omega), swap_get h _ j (by omega) hl (by omega), if_neg (by omega), if_neg (by omega)]
 | case3 => rfl
theorem down_len (h:List Int) (m i:Nat):(downS h m i).1.length=h.length:=by
 fun_induction downS h m i with
 | case1 h i hm c ih => rw [ih, swap_len]
 | case2 => rfl
 | case3 => rfl
theorem down_get (h:List Int) (m i:Nat) (hi:i<h.length) (hm:m<=h.length) (im:i<=m) (k:Nat) (hk:m<=k) (ik:i≠k):(downS h m i).1[k]? =h[k]? :=by
 fun_induction downS h m i with
 | case1 h i hm' c ih =>
  have kb:=kid_bd h m i hm'
  rw [ih (by rw [swap_len];omega) (by rw [swap_len];omega) (by omega) (by omega),swap_get h i _ (by omega) (by omega) (by omega),if_neg (by omega),if_neg (by omega)]
 | case2 => rfl
 | case3 => rfl
set_option maxHeartbeats 2000000 in
theorem hpush_any (base b q mb n:Nat) (C:List Value) (sv:Value) (h:List Int) (F:Int->Option Int) (x:Int) (hx:0<=x/\x<1048576) (hn:n+1<maxLen) (hl:h.length<1048576) (w:World) (H:Bl w base b q mb n C sv h F) (hP:Placed h F) (hB:base<=w.heap.size) (hF:F x=none) :
 Calls Tryd.prog 95 #[.iface 152 (.pointer (some ⟨b,q,none⟩)),.iface 3 (.int .i64 x)] w fun e w'=> ∃ sv' F',e=.returned (.tuple #[])/\Bl w' base b q mb (n+1) (C.set (q+1) sv') sv' (upL (h++[x]) h.length) F'/\Placed (upL (h++[x]) h.length) F'/\Kf (fun k=>k=b\/k=mb\/sv.ownBlock=some k) w w'/\(sv'.ownBlock=sv.ownBlock\/ ∃ g,sv'.ownBlock=some g/\w.heap.size<=g):=by
 have PC:=push_any base b q mb n C sv h F x hx (by omega) (by omega) w H hB hF
 have PC':Hid _:=PC
 have P1:Hid (Placed (h++[x]) (setF F x (some (h.length:Int)))):=hP.push x hx hF
 clear PC H hP hF
 go_enter Tryd.func95,Tryd.ntmps95
 go_wp2_with fail
 refine Calls.mono PC'.out ?_
 rintro e u1 ⟨sv',rfl,hB1,hk1,hs1⟩
 have B1:Hid (Bl u1 base b q mb (n+1) (C.set (q+1) sv') sv' (h++[x]) (setF F x (some (h.length:Int)))):=hB1
 have K1:Hid (Kf (fun k=>k=b\/k=mb\/sv.ownBlock=some k) w u1):=hk1
 have S1:Hid (sv'.ownBlock=sv.ownBlock\/ ∃ g,sv'.ownBlock=some g/\w.heap.size<=g):=hs1
 clear hB1 hk1 hs1 PC'
 have LC:Hid (Calls Tryd.prog 44 #[.pointer (some ⟨b,q,none⟩)] u1 fun e w'=>e=.returned (.int .i64 ((h.length:Int)+1))/\w'=u1):=by
  have q:=len_any base b _ mb _ _ _ _ _ u1 B1.out
  rw [show ((h++[x]).length:Int)=(h.length:Int)+1 by simp] at q
  exact q
 have UC:Hid (Calls Tryd.prog 97 #[.iface 152 (.pointer (some ⟨b,q,none⟩)),.int .i64 (h.length:Int)] u1 fun e w'=>e=.returned (.tuple #[])/\(∃ F',Bl w' base b q mb (n+1) (C.set (q+1) sv') sv' (upL (h++[x]) h.length) F'/\Placed (upL (h++[x]) h.length) F')/\Kf (fun k=>k=mb\/sv'.ownBlock=some k) u1 w') :=
  up_any base b q mb (n+1) _ sv' (h++[x]) _ h.length (by simp) hn (by simp;omega) u1 B1.out P1.out
 go_wp2_with fail
 refine LC.out.mono ?_
 rintro e u1' ⟨rfl,rfl⟩
 go_wp2_with fail
 refine UC.out.mono ?_
 rintro e u2 ⟨rfl,⟨F',hB2,hP2⟩,hk2⟩
 have B2:Hid (Bl u2 base b q mb (n+1) (C.set (q+1) sv') sv' (upL (h++[x]) h.length) F'/\Placed (upL (h++[x]) h.length) F'):=⟨hB2,hP2⟩
 have K2:Hid (Kf (fun k=>k=b\/k=mb\/sv.ownBlock=some k) w u2):=K1.out.next hk2 (fun j hj e=>by
  rcases e with e | e
  . exact Or.inr (Or.inl e)
  . rcases S1.out with s | ⟨g,s,lg⟩
    . exact Or.inr (Or.inr (s.symm.trans e))
    . rw [s] at e;have:=Option.some.inj e;omega)
 clear hB2 hP2 hk2
 go_wp2_with fail
 go_end0
 exact ⟨sv',F',rfl,B2.out.1,B2.out.2,K2.out,S1.out⟩
end Go.Proofs.YtkiclbnbnjbcaaaDoor.Bd
