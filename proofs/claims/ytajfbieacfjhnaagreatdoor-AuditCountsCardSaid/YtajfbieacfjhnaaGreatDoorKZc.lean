import Derived.ProofKit
import Derived.Deep.RegionHeld3
namespace Go.Proofs.YtajfbieacfjhnaaGreatDoor
open Go.ChangeShapes Go.WideShapes Go.ChangeAt Go.RowKit
section
variable {P:Program} {ops:Array Oper} {Q:Exit->Act->World->Prop} {md:Region.Mode} {S:World->Prop} {fuel:Nat} {listed:Array Bool} {a:Act} {w:World}
theorem tk (i d:Nat) (v:Value) {o1:Op} {o2 o3 o4} (hi:ops[i]? =some ⟨some d,o1,o2,o3,o4,none⟩) (hy:YieldsIf P ops S ⟨some d,o1,o2,o3,o4,none⟩ v a) (h:wpAnyH P md ops Q S fuel (listed.setIfInBounds i true) (a.put (some d) v) w) (hs:Region.noSelect ops=true:=by kernel_rfl) (hf:Region.free md ops listed i=true:=by kernel_rfl) (hr:(Region.ready md ops listed).contains i=true:=by kernel_rfl) (hQ: ∀ c a w,Q (.panic c) (a.put (some d) v) w->Q (.panic c) a w:=by exact fun _ _ _ h=>h) (hS:S w:=by assumption):wpAnyH P md ops Q S (fuel+1) listed a w:=wpAnyH_take (oi:=⟨some d,o1,o2,o3,o4,none⟩) hi hs hf hr hQ hy hS h
end
theorem z1 {α :Type} {l:List α} {i:Nat} {a: α}:l.toArray.setIfInBounds i a=(l.set i a).toArray:=by simp
theorem z2 {α :Type} {x: α} {xs:List α} {a: α}:(x::xs).set 0 a=a::xs:=rfl
theorem z3 {α :Type} {x: α} {xs:List α} {n:Nat} {a: α}:(x::xs).set (n+1) a=x::xs.set n a:=rfl
end Go.Proofs.YtajfbieacfjhnaaGreatDoor
