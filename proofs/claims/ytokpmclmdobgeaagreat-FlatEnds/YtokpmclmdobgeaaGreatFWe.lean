import Derived.Test.YtokpmclmdobgeaaGreatJDe
import Derived.Test.YtokpmclmdobgeaaGreatJCe
import Derived.Deep.Slices
set_option linter.unusedSimpArgs false
set_option linter.unusedVariables false
set_option maxRecDepth 8000
open Go.ChangeShapes Go.WideShapes Go.ChangeAt Go.RowKit Go.Maps
namespace Go.Proofs.YtokpmclmdobgeaaGreat.Ca
theorem args_stay {H:Type} {enc:TypeId × Value->H} {P:Program} {W W':World} (hl:laidOutB P=true) (hb:bc W W') :
 ∀ {ts:List TypeId} {vs:List Value} {ds:List (DataW H)} {ps:List MemPlace},(ts.all fun t=>P.readableRec t && decide (t<P.types.size))=true ->
  DataW.TrodAll enc P W 0 (fun _=>true) true ts vs ds ps->(∀ x∈ps,x.block<W.heap.size)->DataW.TrodAll enc P W' 0 (fun b=>decide (b<W.heap.size)) true ts vs ds ps
 | [], vs, ds, ps, _, h, _ => by
  obtain ⟨rfl,rfl,rfl⟩:=trodAll_nil h
  exact trodAll_mk0
 | t :: ts, vs, ds, ps, ha, h, hp => by
  obtain ⟨v,vs0,d,ds0,p,q,rfl,rfl,rfl,h0,r0⟩:=trodAll_cons h
  simp only [List.all_cons,Bool.and_eq_true,decide_eq_true_eq] at ha
  exact trodAll_cons_mk (Below.trod hl ha.1.1 ha.1.2 h0 hb (fun x hx=>hp x (List.mem_append_left _ hx)))
   (args_stay hl hb (by simpa using ha.2) r0 (fun x hx=>hp x (List.mem_append_right _ hx)))
theorem cell_of {P:Program} {t n:Nat} {cs:List Value} {c v:Value} (hc:P.cellsOf t=1) (h:(cs.drop n).take (P.cellsOf t)=[v]) (hn:cs[n]? =some c):c=v:=by
 rw [hc] at h
 have e:((cs.drop n).take 1)[0]? =some c:=by rw [List.getElem?_take,if_pos (by omega),List.getElem?_drop];simpa using hn
 rw [h] at e
 simpa using e.symm
theorem cellsU:Tryz.prog.cellsOf 28=1:=kc
theorem wf_u64 {x:Int} (h:(Lit.int .u64 x).wf=true):0<=x/\x<18446744073709551616:=by simp [Lit.wf,IntKind.min,IntKind.max,IntKind.signed,IntKind.bits] at h;omega
theorem wd_wf {a0 a1 a2 a3 a4 a5:Int} (h0:(Lit.int .u64 a0).wf=true) (h1:(Lit.int .u64 a1).wf=true) (h2:(Lit.int .u64 a2).wf=true) (h3:(Lit.int .u64 a3).wf=true) (h4:(Lit.int .u64 a4).wf=true) (h5:(Lit.int .u64 a5).wf=true):(Wd.mk a0 a1 a2 a3 a4 a5).wf:=fun k=>by
 match k with
 | 0 => exact wf_u64 h0
 | 1 => exact wf_u64 h1
 | 2 => exact wf_u64 h2
 | 3 => exact wf_u64 h3
 | 4 => exact wf_u64 h4
 | 5 => exact wf_u64 h5
 | k + 6 =>
  have:(Wd.mk a0 a1 a2 a3 a4 a5).at (k+6)=0:=by simp [Wd.at,Wd.list]
  rw [this];omega
end Go.Proofs.YtokpmclmdobgeaaGreat.Ca
