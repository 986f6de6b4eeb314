import Derived.Test.YtlaiadheelgbdaaGreatMDf
import Derived.Test.YtlaiadheelgbdaaGreatMCf
import Derived.Deep.Slices
namespace Go.Proofs.YtlaiadheelgbdaaGreat.Ca
open Go.ChangeShapes Go.WideShapes Go.ChangeAt Go.RowKit Go.Maps
set_option linter.unusedSimpArgs false
set_option linter.unusedVariables false
set_option maxRecDepth 8000
theorem args_stay {H:Type} {enc:TypeId × Value->H} {P:Program} {W W':World} (hl:laidOutB P=true) (hb:Below W.heap.size W W') :
 ∀ {ts:List TypeId} {vs:List Value} {ds:List (DataW H)} {ps:List MemPlace},(ts.all fun t=>P.readableRec t && decide (t<P.types.size))=true ->
  DataW.TrodAll enc P W 0 (fun _=>true) true ts vs ds ps->(∀ x∈ps,x.block<W.heap.size)->DataW.TrodAll enc P W' 0 (fun b=>decide (b<W.heap.size)) true ts vs ds ps
 | [], vs, ds, ps, _, h, _ => by
  obtain ⟨rfl,rfl,rfl⟩:=trodAll_nil h
  exact trodAll_mk0
 | t :: ts, vs, ds, ps, ha, h, hp => by
  obtain ⟨v,vs0,d,ds0,p,q,rfl,rfl,rfl,h0,r0⟩:=trodAll_cons h
  simp only [List.all_cons,Bool.and_eq_true,decide_eq_true_eq] at ha
  exact trodAll_cons_mk (Below.trod hl ha.1.1 ha.1.2 h0 hb (fun x hx=>hp x (List.mem_append_left _ hx)))
   (args_stay hl hb (by simpa using ha.2) r0 (fun x hx=>hp x (List.mem_append_right _ hx)))
theorem cell_of {P:Program} {t n:Nat} {cs:List Value} {c v:Value} (hc:P.cellsOf t=1) (h:(cs.drop n).take (P.cellsOf t)=[v]) (hn:cs[n]? =some c):c=v:=by
 rw [hc] at h
 have e:((cs.drop n).take 1)[0]? =some c:=by rw [List.getElem?_take,if_pos (by omega),List.getElem?_drop];simpa using hn
 rw [h] at e
 simpa using e.symm
theorem cellsU:Tryz.prog.cellsOf 22=1:=by kernel_rfl
theorem cellsW:Tryz.prog.cellsOf 24=6:=by kernel_rfl
theorem wf_u64 {x:Int} (h:(Lit.int .u64 x).wf=true):0<=x/\x<18446744073709551616:=by simp [Lit.wf,IntKind.min,IntKind.max,IntKind.signed,IntKind.bits] at h;omega
theorem words_cells {H:Type} {enc:TypeId × Value->H} {W:World} {base:Nat} {sp:Nat->Bool} {held:Bool} {x:DataW H} {ps:List MemPlace} {fuel:Nat} {cs:List Value} (hf2:DataW.trod enc Tryz.prog W base sp held fuel 24 cs=some (x,ps)) (hl:cs.length=6) :
 ∃ a0 a1 a2 a3 a4 a5:Int,cs=[.int .u64 a0,.int .u64 a1,.int .u64 a2,.int .u64 a3,.int .u64 a4,.int .u64 a5]/\(Lit.int .u64 a0).wf=true/\(Lit.int .u64 a1).wf=true/\(Lit.int .u64 a2).wf=true/\(Lit.int .u64 a3).wf=true/\(Lit.int .u64 a4).wf=true/\(Lit.int .u64 a5).wf=true:=by
 obtain ⟨c0,c1,c2,c3,c4,c5,hcs⟩: ∃ c0 c1 c2 c3 c4 c5,cs=[c0,c1,c2,c3,c4,c5]:=by
  revert hl
  match cs with
  | [c0, c1, c2, c3, c4, c5] => intro _; exact ⟨c0, c1, c2, c3, c4, c5, rfl⟩
  | [] => intro q; cases q
  | [_] => intro q; cases q
  | [_, _] => intro q; cases q
  | [_, _, _] => intro q; cases q
  | [_, _, _, _] => intro q; cases q
  | [_, _, _, _, _] => intro q; cases q
  | _ :: _ :: _ :: _ :: _ :: _ :: _ :: _ => intro q; simp at q
 subst hcs
 obtain ⟨xs,m,_,_,jl,jlen,jf⟩:=DataW.trod_array Tryz.underlying24 hf2
 have hg: ∀ i,i<6-> ∃ y,xs[i]? =some y:=fun i hi=>⟨_,List.getElem?_eq_getElem (by rw [jlen];exact hi)⟩
 obtain ⟨y0,k0⟩:=hg 0 (by omega)
 obtain ⟨a0,e0,_,w0⟩:=DataW.trod_int Tryz.underlying22 ((jf 0 (by omega)).trans k0)
 obtain rfl:=cell_of cellsU e0 (c:=c0) (by rw [cellsU];rfl)
 obtain ⟨y1,k1⟩:=hg 1 (by omega)
 obtain ⟨a1,e1,_,w1⟩:=DataW.trod_int Tryz.underlying22 ((jf 1 (by omega)).trans k1)
 obtain rfl:=cell_of cellsU e1 (c:=c1) (by rw [cellsU];rfl)
 obtain ⟨y2,k2⟩:=hg 2 (by omega)
 obtain ⟨a2,e2,_,w2⟩:=DataW.trod_int Tryz.underlying22 ((jf 2 (by omega)).trans k2)
 obtain rfl:=cell_of cellsU e2 (c:=c2) (by rw [cellsU];rfl)
 obtain ⟨y3,k3⟩:=hg 3 (by omega)
 obtain ⟨a3,e3,_,w3⟩:=DataW.trod_int Tryz.underlying22 ((jf 3 (by omega)).trans k3)
 obtain rfl:=cell_of cellsU e3 (c:=c3) (by rw [cellsU];rfl)
 obtain ⟨y4,k4⟩:=hg 4 (by omega)
 obtain ⟨a4,e4,_,w4⟩:=DataW.trod_int Tryz.underlying22 ((jf 4 (by omega)).trans k4)
 obtain rfl:=cell_of cellsU e4 (c:=c4) (by rw [cellsU];rfl)
 obtain ⟨y5,k5⟩:=hg 5 (by omega)
 obtain ⟨a5,e5,_,w5⟩:=DataW.trod_int Tryz.underlying22 ((jf 5 (by omega)).trans k5)
 obtain rfl:=cell_of cellsU e5 (c:=c5) (by rw [cellsU];rfl)
 exact ⟨_,_,_,_,_,_,rfl,w0,w1,w2,w3,w4,w5⟩
theorem wd_wf {a0 a1 a2 a3 a4 a5:Int} (h0:(Lit.int .u64 a0).wf=true) (h1:(Lit.int .u64 a1).wf=true) (h2:(Lit.int .u64 a2).wf=true) (h3:(Lit.int .u64 a3).wf=true) (h4:(Lit.int .u64 a4).wf=true) (h5:(Lit.int .u64 a5).wf=true):(Wd.mk a0 a1 a2 a3 a4 a5).wf:=fun k=>by
 match k with
 | 0 => exact wf_u64 h0
 | 1 => exact wf_u64 h1
 | 2 => exact wf_u64 h2
 | 3 => exact wf_u64 h3
 | 4 => exact wf_u64 h4
 | 5 => exact wf_u64 h5
 | k + 6 =>
  have:(Wd.mk a0 a1 a2 a3 a4 a5).at (k+6)=0:=by simp [Wd.at,Wd.list]
  rw [this];omega
theorem open_wd {H:Type} {enc:TypeId × Value->H} {W:World} {base:Nat} {sp:Nat->Bool} {held:Bool} {r:Reach} {b0:Nat} {v:Value} {x:DataW H} {ps:List MemPlace}
 (hv:Value.okWide Tryz.prog W r b0 24 v) (h:DataW.Trod enc Tryz.prog W base sp held 24 v x ps): ∃ D:Wd,v=D.val/\D.wf:=by
 have hs:=Tryz.underlying24
 have hv':=hv
 simp only [Value.okWide,hs] at hv'
 obtain ⟨cs,rfl,hsz,_⟩:=hv'
 obtain ⟨fuel,hf⟩:=h
 have hf2:DataW.trod enc Tryz.prog W base sp held fuel 24 cs.toList=some (x,ps):=hf
 obtain ⟨a0,a1,a2,a3,a4,a5,e,h0,h1,h2,h3,h4,h5⟩:=words_cells hf2 (by rw [Array.length_toList];exact hsz.trans cellsW)
 refine ⟨⟨a0,a1,a2,a3,a4,a5⟩,?_,wd_wf h0 h1 h2 h3 h4 h5⟩
 have:cs= #[.int .u64 a0,.int .u64 a1,.int .u64 a2,.int .u64 a3,.int .u64 a4,.int .u64 a5]:=by rw [<- Array.toArray_toList (xs:=cs),e]
 rw [this]
end Go.Proofs.YtlaiadheelgbdaaGreat.Ca
