import Derived.Test.YtokpmclmdobgeaaGreatKZe
import Derived.Test.YtokpmclmdobgeaaGreatJFe
import Derived.Test.YtokpmclmdobgeaaGreatJIe
import Derived.Test.YtokpmclmdobgeaaGreatJHe
set_option linter.unusedSimpArgs false
set_option linter.unusedVariables false
set_option maxRecDepth 8000
open Go.ChangeShapes Go.WideShapes Go.ChangeAt Go.RowKit Go.Maps
namespace Go.Proofs.YtokpmclmdobgeaaGreat.Fl
theorem list_block {w w':World} {base:Nat} {p:Option Addr} {L:List Re.Rg} (h:Re.IsL w base p L) (hs:w.heap.size<=w'.heap.size) (e: ∀ g,p=some ⟨g,0,none⟩->g<w.heap.size->0<L.length->w'.heap[g]? =w.heap[g]?):Re.IsL w' base p L:=fun i hi=>by
 obtain ⟨g,rfl,l1,l2,c⟩:=h i hi
 exact ⟨g,rfl,l1,nla l2 hs,fun j x hx=>(World.cell?_of_block (w:=w) (a:=⟨g,i*6+j,none⟩) (e g rfl l2 (by omega))).trans (c j x hx)⟩
theorem page_block {w w':World} {c:Nat} {B:Nat->Int} (h:Page w c B) (e:w'.heap[c]? =w.heap[c]?):Page w' c B:=fun i hi=>by
 rw [World.cell?_of_block (a:=⟨c,i,none⟩) e,World.frozen?_of_block (a:=⟨c,i,none⟩) e];exact h i hi
abbrev Ko (O:Nat->Nat) (W W':World):Prop:=Kept (fun j=>O j=0/\j<W.heap.size) W W'
theorem Ko.of_below {O:Nat->Nat} {W W':World} (h:bc W W'):Ko O W W':=kept_of_below h (fun j hj=>hj.2)
theorem add_new (p:Option Addr) (c:Nat) (L:List Re.Rg) (hL:L.length<=100) (hc:L.length<=c) (r:Re.Rg) (E:Int) (M:List Re.Rg) (hE:Re.errA (Re.addN L r) (Re.addL L r)=E) (hM:Re.outL (Re.addN L r) (Re.addL L r)=M) (w:World) (h:Re.IsL w 0 p L) :
 Calls Tryz.prog 77 #[.slice p L.length c,r.val] w fun e w'=> ∃ p' c',e=.returned (.tuple #[.slice p' M.length c',.int .i64 E])/\M.length<=c'/\Re.IsL w' w.heap.size p' M/\bc w w' :=
 (Re.add_any 0 p c L hL hc r w h).mono fun e w' ⟨v,er,h1,h2,h3⟩=>by
  obtain ⟨k1,p',c',k2,k3,k4⟩:=Re.ans_readb h2
  rw [hE] at k1;rw [hM] at k2 k3 k4
  exact ⟨p',c',by rw [h1,k1,k2],k3,k4,h3⟩
def mayV (pw pu px x u f:Bool):Bool:=(!x || pw) && (!u || pu) && (!f || px)
theorem may_any (pw pu px x u f:Bool) (w:World):Calls Tryz.prog 53 #[.agg (s9 pw pu px),.agg #[.bool x,.bool u,.bool f]] w (re (.bool (mayV pw pu px x u f)) w):=by
 cases x <;> cases u <;> cases f
 all_goals
  go_enter Tryz.func53,Tryz.ntmps53
  go_wp2
  all_goals
   go_returns
   refine ⟨?_,Go.Joins.below_alloc2 _ _ _⟩
   simp_all [mayV]
theorem zero_run (w:World):(zeroValue 135).run Tryz.prog w=.ok (.agg (Array.replicate 4096 (.int .u8 0))) w:=kc
theorem zero_page: ∃ zs:Array Value,(∀ w:World,(zeroValue 135).run Tryz.prog w=.ok (.agg zs) w)/\ ∀ i,i<4096->zs[i]? =some (.int .u8 0) :=
 ⟨Array.replicate 4096 (.int .u8 0),zero_run,fun i hi=>by rw [Array.getElem?_replicate,if_pos hi]⟩
theorem page_made (w:World) (zs:Array Value) (hz: ∀ i,i<4096->zs[i]? =some (.int .u8 0)):Page (w.alloc (.cells zs 135)) w.heap.size (fun _=>0):=fun i hi=>by
 rw [World.cell?_alloc_at _ _ _ _ rfl,World.frozen?_alloc_at _ _ _ _ rfl]
 exact ⟨hz i hi,rfl⟩
theorem MapF.mono {w:World} {b n:Nat} {f:Int->Option Nat} (h:MapF w b n f) {n':Nat} (hn:n<=n'):MapF w b n' f:=by
 obtain ⟨D,hown,hD⟩:=h
 exact ⟨D,hown.mono hn,hD⟩
theorem MapL.mono {w:World} {b n:Nat} {f:Int->Option Nat} (h:MapL w b n f) {n':Nat} (hn:n<=n'):MapL w b n' f:=by
 obtain ⟨D,hown,hD⟩:=h
 exact ⟨D,hown.mono hn,hD⟩
theorem cset_bd {B:Nat->Int} (h: ∀ i,0<=B i/\B i<256) (a m:Nat) (x:Int): ∀ i,0<=cset B a m x i/\cset B a m x i<256:=fun i=>by
 unfold cset
 split
 . exact ⟨Int.emod_nonneg _ (by omega),Int.emod_lt_of_pos _ (by omega)⟩
 . exact h i
theorem wanted_mp {c:Prop} [Decidable c] {a b:Prop} (h:c) (ha:a):if c then a else b:=by rw [if_pos h];exact ha
end Go.Proofs.YtokpmclmdobgeaaGreat.Fl
