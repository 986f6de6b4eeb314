import Derived.Test.YtokpmclmdobgeaaGreatKZe
import Derived.Test.YtokpmclmdobgeaaGreatJKe
set_option linter.unusedSimpArgs false
set_option linter.unusedVariables false
set_option maxRecDepth 8000
open Go.ChangeShapes Go.WideShapes Go.ChangeAt Go.RowKit Go.Maps
namespace Go.Proofs.YtokpmclmdobgeaaGreat.Fl
def Sta (Y:(Nat->Nat)->World->Prop):Prop:= ∀ O V V',Y O V->V.heap.size<=V'.heap.size->(∀ j,O j≠0->V'.heap[j]? =V.heap[j]?)->Y O V'
def Tx (O:Nat->Nat) (W:World) (Y:(Nat->Nat)->World->Prop) (w':World):Prop:= ∃ O',Y O' w'/\(∀ j,j<W.heap.size->O' j=O j)/\(∀ j,O' j≠0->j<w'.heap.size)/\Ko O W w'
theorem Tx.to {O:Nat->Nat} {W w V V':World} {Y:(Nat->Nat)->World->Prop} (hY:Sta Y) (hb:bc W w) (h:Tx O w Y V) {b:Nat} (l1:W.heap.size<=b) (l2:b<w.heap.size) (ob:O b=0) (hg:V.grownBy V' (some b)):Tx O W Y V':=by
 obtain ⟨O',y,e,lt,k⟩:=h
 have ob':O' b=0:=(e b l2).trans ob
 refine ⟨O',hY O' V V' y hg.size (fun j hj=>hg.block j (lt j hj) (fun q=>hj (by rw [sia q];exact ob'))),fun j hj=>e j (nla hj hb.size),fun j hj=>nla (lt j hj) hg.size,?_⟩
 refine (Ko.of_below hb).trans ((k.sub (fun j hj=>⟨hj.1,nla hj.2 hb.size⟩)).trans (kept_grown hg fun j hj=>⟨by omega,nla hj.2 (Nat.le_trans hb.size k.size)⟩))
theorem Tx.up {O:Nat->Nat} {W w V:World} {Y:(Nat->Nat)->World->Prop} (hb:bc W w) (h:Tx O w Y V):Tx O W Y V:=by
 obtain ⟨O',y,e,lt,k⟩:=h
 exact ⟨O',y,fun j hj=>e j (nla hj hb.size),lt,(Ko.of_below hb).trans (k.sub (fun j hj=>⟨hj.1,nla hj.2 hb.size⟩))⟩
theorem Ko.blk {O:Nat->Nat} {w w':World} {b:Nat} {C:List Value} {t:TypeId} (k:Ko O w w') (h:Blk w b C t) (ob:O b=0):Blk w' b C t:=(k.block b ⟨ob,h.lt⟩).trans h
end Go.Proofs.YtokpmclmdobgeaaGreat.Fl
