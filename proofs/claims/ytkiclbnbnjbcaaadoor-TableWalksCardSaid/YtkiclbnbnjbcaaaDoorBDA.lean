import Derived.Test.YtkiclbnbnjbcaaaDoorBD9
namespace Go.Proofs.YtkiclbnbnjbcaaaDoor.Bd
open Go.ChangeShapes Go.WideShapes Go.ChangeAt Go.RowKit Go.Maps
set_option linter.unusedSimpArgs false
set_option linter.unusedVariables false
set_option maxRecDepth 8000
def HeapTo (h:List Int) (m:Nat):Prop:= ∀ i,0<i->i<m->h.getD ((i-1) / 2) 0<=h.getD i 0
theorem swap_getD (h:List Int) (i j:Nat) (hi:i<h.length) (hj:j<h.length) (n:i≠j) (k:Nat):(swapL h i j).getD k 0=if k=j then h.getD i 0 else if k=i then h.getD j 0 else h.getD k 0:=by
 rw [List.getD_eq_getElem?_getD,swap_get h i j hi hj n k]
 split
 . rw [getD_at h i hi];rfl
 . split
   . rw [getD_at h j hj];rfl
   . rw [List.getD_eq_getElem?_getD]
def UpInv (h:List Int) (m j:Nat):Prop:=(∀ i,0<i->i<m->i≠j->h.getD ((i-1) / 2) 0<=h.getD i 0)/\(∀ i,0<i->i<m->(i-1) / 2=j->0<j->h.getD ((j-1) / 2) 0<=h.getD i 0)
theorem up_heap (h:List Int) (m j:Nat) (hj:j<h.length) (hm:m<=h.length) (H:UpInv h m j):HeapTo (upL h j) m:=by
 fun_induction upL h j with
 | case1 h =>
  intro i i0 im
  exact H.1 i i0 im (by omega)
 | case2 h j j0 c ih =>
  have sg:=swap_getD h ((j-1) / 2) j (by omega) hj (by omega)
  refine ih (by rw [swap_len];omega) (by rw [swap_len];exact hm) ⟨fun i i0 im hne=> ?_,fun i i0 im hp p0=> ?_⟩
  . rw [sg,sg]
    by_cases a:i=j
    . subst a
      rw [if_neg (by omega),if_pos rfl,if_pos rfl];omega
    . rw [if_neg a,if_neg hne]
      by_cases q:(i-1) / 2=j
      . rw [if_pos q]
        exact H.2 i i0 im q (by omega)
      . rw [if_neg q]
        by_cases r:(i-1) / 2=(j-1) / 2
        . rw [if_pos r]
          have:=H.1 i i0 im a
          rw [r] at this
          omega
        . rw [if_neg r];exact H.1 i i0 im a
  . rw [sg,sg,if_neg (by omega),if_neg (by omega)]
    have e1:=H.1 ((j-1) / 2) p0 (by omega) (by omega)
    by_cases a:i=j
    . rw [if_pos a];exact e1
    . rw [if_neg a,if_neg (by omega)]
      have e2:=H.1 i i0 im a
      rw [hp] at e2
      omega
 | case3 h j j0 c =>
  intro i i0 im
  by_cases a:i=j
  . subst a;omega
  . exact H.1 i i0 im a
def DnInv (h:List Int) (m i:Nat):Prop:=(∀ k,0<k->k<m->k≠i->(k-1) / 2≠i->h.getD ((k-1) / 2) 0<=h.getD k 0)/\(∀ k,0<k->k<m->(k-1) / 2=i->0<i->h.getD ((i-1) / 2) 0<=h.getD k 0)
theorem kid_least (h:List Int) (m i k:Nat) (hm:2*i+1<m) (k0:0<k) (km:k<m) (hk:(k-1) / 2=i):h.getD (kidL h m i) 0<=h.getD k 0:=by
 unfold kidL
 rcases (show k=2*i+1\/k=2*i+2 by omega) with rfl | rfl
 . split <;> omega
 . split
   . omega
   . rename_i c
     omega
theorem kid_par (h:List Int) (m i:Nat):(kidL h m i-1) / 2=i:=by unfold kidL;split <;> omega
theorem down_heap (h:List Int) (m i:Nat) (hi:i<m) (hm:m<=h.length) (H:DnInv h m i) (hp:0<i->h.getD ((i-1) / 2) 0<=h.getD i 0):HeapTo (downS h m i).1 m:=by
 fun_induction downS h m i with
 | case1 h i hm' c ih =>
  have kb:=kid_bd h m i hm'
  have kp:=kid_par h m i
  have sg:=swap_getD h i (kidL h m i) (by omega) (by omega) (by omega)
  refine ih kb.2 (by rw [swap_len];exact hm) ⟨fun k k0 km hne hnp=> ?_,fun k k0 km hk kd0=> ?_⟩ (fun _=> ?_)
  . rw [sg,sg,if_neg hnp,if_neg hne]
    by_cases a:k=i
    . subst a
      rw [if_neg (by omega),if_pos rfl]
      exact H.2 (kidL h m k) (by omega) kb.2 kp (by omega)
    . rw [if_neg a]
      by_cases q:(k-1) / 2=i
      . rw [if_pos q];exact kid_least h m i k hm' k0 km q
      . rw [if_neg q];exact H.1 k k0 km a q
  . rw [sg,sg,kp,if_neg (by omega),if_pos rfl,if_neg (by omega),if_neg (by omega)]
    have:=H.1 k k0 km (by omega) (by omega)
    rw [hk] at this;exact this
  . rw [sg,sg,kp,if_neg (by omega),if_pos rfl,if_pos rfl];omega
 | case2 h i hm' c =>
  show HeapTo h m
  intro k k0 km
  by_cases a:k=i
  . subst a;exact hp k0
  . by_cases q:(k-1) / 2=i
    . rw [q]
      have:=kid_least h m i k hm' k0 km q
      omega
    . exact H.1 k k0 km a q
 | case3 h i hm' =>
  show HeapTo h m
  intro k k0 km
  by_cases a:k=i
  . subst a;exact hp k0
  . exact H.1 k k0 km a (by omega)
theorem down_stays (h:List Int) (m i:Nat) (hs: ¬ i<(downS h m i).2):(downS h m i).1=h/\ ∀ k,0<k->k<m->(k-1) / 2=i->h.getD i 0<=h.getD k 0:=by
 have mono: ∀ (h:List Int) (m i:Nat),i<=(downS h m i).2:=by
  intro h m i
  fun_induction downS h m i with
  | case1 h i hm' c ih => have := kid_bd h m i hm'; omega
  | case2 => exact Nat.le_refl _
  | case3 => exact Nat.le_refl _
 rw [downS] at hs |-
 by_cases c1:2*i+1<m
 . rw [dif_pos c1] at hs |-
   by_cases c2:h.getD (kidL h m i) 0<h.getD i 0
   . rw [if_pos c2] at hs
     have a:=mono (swapL h i (kidL h m i)) m (kidL h m i)
     have b:=kid_bd h m i c1
     omega
   . rw [if_neg c2]
     refine ⟨rfl,fun k k0 km hk=> ?_⟩
     have:=kid_least h m i k c1 k0 km hk
     omega
 . rw [dif_neg c1]
   exact ⟨rfl,fun k k0 km hk=>by omega⟩
theorem down_moves (h:List Int) (m i:Nat) (hs:i<(downS h m i).2):2*i+1<m/\h.getD (kidL h m i) 0<h.getD i 0:=by
 rw [downS] at hs
 by_cases c1:2*i+1<m
 . rw [dif_pos c1] at hs
   by_cases c2:h.getD (kidL h m i) 0<h.getD i 0
   . exact ⟨c1,c2⟩
   . rw [if_neg c2] at hs;simp at hs
 . rw [dif_neg c1] at hs;simp at hs
theorem push_heap (h:List Int) (x:Int) (H:HeapTo h h.length):HeapTo (upL (h++[x]) h.length) (h.length+1):=by
 have g: ∀ k,k<h.length->(h++[x]).getD k 0=h.getD k 0:=fun k hk=>by rw [List.getD_eq_getElem?_getD,List.getElem?_append_left hk,<- List.getD_eq_getElem?_getD]
 refine up_heap (h++[x]) (h.length+1) h.length (by simp) (by simp) ⟨fun i i0 im hne=> ?_,fun i i0 im hp p0=>by omega⟩
 rw [g _ (by omega),g _ (by omega)]
 exact H i i0 (by omega)
theorem rem_heap (h:List Int) (i:Nat) (hi:i<h.length) (H:HeapTo h h.length):HeapTo (remH h i) (h.length-1):=by
 unfold remH
 split
 . intro k k0 km;exact H k k0 (by omega)
 . rename_i c
   have sg:=swap_getD h i (h.length-1) hi (by omega) (by omega)
   have dn:DnInv (swapL h i (h.length-1)) (h.length-1) i:=⟨fun k k0 km a b=>by
    rw [sg,sg,if_neg (by omega),if_neg b,if_neg (by omega),if_neg a];exact H k k0 (by omega),fun k k0 km hk i0=>by
    rw [sg,sg,if_neg (by omega),if_neg (by omega),if_neg (by omega),if_neg (by omega)]
    have a:=H k k0 (by omega)
    have b:=H i i0 (by omega)
    rw [hk] at a;omega⟩
   split
   . rename_i d
     obtain ⟨d1,d2⟩:=down_moves _ _ _ d
     refine down_heap _ _ i (by omega) (by rw [swap_len];omega) dn (fun i0=> ?_)
     have kp:=kid_par (swapL h i (h.length-1)) (h.length-1) i
     have kb:=kid_bd (swapL h i (h.length-1)) (h.length-1) i d1
     have:=dn.2 _ (by omega) kb.2 kp i0
     omega
   . rename_i d
     obtain ⟨d1,d2⟩:=down_stays _ _ _ d
     rw [d1]
     refine up_heap _ _ i (by rw [swap_len];exact hi) (by rw [swap_len];omega) ⟨fun k k0 km a=> ?_,fun k k0 km hk i0=>dn.2 k k0 km hk i0⟩
     by_cases q:(k-1) / 2=i
     . rw [q];exact d2 k k0 km q
     . exact dn.1 k k0 km a q
theorem heap_least (h:List Int) (H:HeapTo h h.length): ∀ k,k<h.length->h.getD 0 0<=h.getD k 0:=by
 intro k
 induction k using Nat.strongRecOn with
 | _ k ih =>
  intro hk
  by_cases k0:k=0
  . subst k0;exact Int.le_refl _
  . have a:=ih ((k-1) / 2) (by omega) (by omega)
    have b:=H k (by omega) hk
    omega
end Go.Proofs.YtkiclbnbnjbcaaaDoor.Bd
