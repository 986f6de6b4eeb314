import Derived.Test.YtgbdnnkkcpkhdaaGreatDoorOWc
import Derived.Test.YtgbdnnkkcpkhdaaGreatDoorMUc
import Derived.Test.YtgbdnnkkcpkhdaaGreatDoorMQc
set_option linter.unusedSimpArgs false
set_option linter.unusedVariables false
set_option maxRecDepth 8000
open Go.ChangeShapes Go.WideShapes Go.ChangeAt Go.RowKit Go.Maps
namespace Go.Proofs.YtgbdnnkkcpkhdaaGreatDoor.Gv
def rg (M:List (Int × Int)):Nat->Int × Int:=fun i=>M.getD i (0,0)
theorem rg_at {M:List (Int × Int)} {i:Nat} (h:i<M.length):rg M i=M[i]:=by
 unfold rg;rw [List.getD_eq_getElem?_getD,List.getElem?_eq_getElem h];rfl
theorem form_can {M:List (Int × Int)} {F:Int} (hc:Bm.Can M) (hb: ∀ x,Bm.Has M x->0<=x/\x<F) (hF:F<=1048576):Bd.Form (rg M) M.length:=fun i hi=>by
 rw [rg_at hi]
 have ne:=hc.1 M[i] (List.getElem_mem hi)
 have b1:=hb M[i].1 ⟨M[i],List.getElem_mem hi,Int.le_refl _,ne⟩
 have b2:=hb (M[i].2-1) ⟨M[i],List.getElem_mem hi,by omega,by omega⟩
 refine ⟨?_,ne,by omega⟩
 cases i with
 | zero => exact b1.1
 | succ j =>
  show (rg M j).2<=_
  rw [rg_at (by omega)]
  have:=List.pairwise_iff_getElem.1 hc.2 j (j+1) (by omega) hi (by omega)
  omega
theorem ru_has {M:List (Int × Int)} (x:Nat):Bd.RU (rg M) M.length x↔Bm.Has M x:=by
 constructor
 . rintro ⟨m,h1,h2,h3⟩
   rw [rg_at h1] at h2 h3
   exact ⟨M[m],List.getElem_mem h1,h2,h3⟩
 . rintro ⟨r,hr,h2,h3⟩
   obtain ⟨m,h1,rfl⟩:=List.getElem_of_mem hr
   exact ⟨m,h1,by rw [rg_at h1];exact h2,by rw [rg_at h1];exact h3⟩
theorem rgs_of {w:World} {v:Value} {M:List (Int × Int)} (H:Bm.RL w 0 v M) (hz:Bm.At0 v) (h0:M≠[]): ∃ g c,v=.slice (some ⟨g,0,none⟩) M.length c/\Bd.Rgs w g M.length (rg M):=by
 rcases H with ⟨_,h⟩ | ⟨g,o,c,hv,hc,_,lg,h⟩
 . exact absurd h h0
 . have o0:o=0:=hz _ _ _ hv _ rfl
   subst o0
   refine ⟨g,c,hv,lg,fun i hi=> ?_⟩
   rw [rg_at hi]
   have h1:=h i hi 0 (by omega)
   have h2:=h i hi 1 (by omega)
   rw [Nat.zero_add] at h1 h2
   exact ⟨h1,h2⟩
end Go.Proofs.YtgbdnnkkcpkhdaaGreatDoor.Gv
