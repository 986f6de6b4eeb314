import Derived.Test.YtajfbieacfjhnaaGreatDoorAFc
namespace Go.Proofs.YtajfbieacfjhnaaGreatDoor.Au
open Go.ChangeShapes Go.WideShapes Go.ChangeAt Go.RowKit Go.Maps
open Go.Proofs.YtajfbieacfjhnaaGreatDoor.Tt Go.Proofs.YtajfbieacfjhnaaGreatDoor.Sp
set_option linter.unusedSimpArgs false
set_option linter.unusedVariables false
set_option maxRecDepth 8000
def IsUses (w:World) (p:Option Addr) (n:Nat) (A:Nat->Us):Prop:= ∀ i,i<n-> ∃ b o,p=some ⟨b,o,none⟩/\b<w.heap.size/\w.cell? ⟨b,o+i*3,none⟩=some (.int .i64 (A i).1)/\w.cell? ⟨b,o+i*3+1,none⟩=some (.int .i64 (A i).2.1)/\w.cell? ⟨b,o+i*3+2,none⟩=some (.int .i64 (A i).2.2)
theorem cellsI:Tryz.prog.cellsOf 3=1:=by kernel_rfl
theorem cellsA:Tryz.prog.cellsOf 26=3:=by kernel_rfl
theorem open_uses {H:Type} {enc:TypeId × Value->H} {W:World} {base:Nat} {sp:Nat->Bool} {held:Bool} {v:Value} {x:DataW H} {ps:List MemPlace} {r:Reach} {b0:Nat}
 (hv:Value.okWide Tryz.prog W r b0 22 v) (h:DataW.Trod enc Tryz.prog W base sp held 22 v x ps) :
 ∃ (p:Option Addr) (n c:Nat) (A:Nat->Us),v=.slice p n c/\n<=maxLen/\n<=c/\IsUses W p n A:=by
 obtain ⟨a',l',c',rfl⟩:=okWide_slice Tryz.underlying22 hv
 obtain ⟨fuel,hf⟩:=h
 rcases Go.Deep.open_slice Tryz.underlying22 hf with ⟨e,_⟩ | ⟨a,len,cap,m,k,D,Pl,e,hb,hl,hm,hmm,hx,hel⟩
 . have e':Value.slice a' l' c'=.slice none 0 0:=(List.cons.inj (show [Value.slice a' l' c']=[.slice none 0 0] from e)).1
   exact ⟨none,0,0,fun _=>(0,0,0),e',by omega,by omega,fun i hi=>absurd hi (Nat.not_lt_zero _)⟩
 . have e':Value.slice a' l' c'=.slice (some a) len cap:=(List.cons.inj (show [Value.slice a' l' c']=[.slice (some a) len cap] from e)).1
   have hlm:len<=m:=by rw [hmm];split <;> omega
   rw [e']
   have each: ∀ i,i<len-> ∃ q:Us,a.spot=none/\a.block<W.heap.size/\W.cell? ⟨a.block,a.off+i*3,none⟩=some (.int .i64 q.1)/\W.cell? ⟨a.block,a.off+i*3+1,none⟩=some (.int .i64 q.2.1)/\W.cell? ⟨a.block,a.off+i*3+2,none⟩=some (.int .i64 q.2.2):=fun i hi=>by
    obtain ⟨cs',h1,h2⟩:=hel i (by omega)
    obtain ⟨c2',h3,_⟩:=hel 0 (by omega)
    rw [cellsA] at h1 h3
    obtain ⟨_,hlen,hcell⟩:=World.cells?_some h1
    obtain ⟨_,hlen3,hcell3⟩:=World.cells?_some h3
    have hspot:a.spot=none:=by
     have:=hcell3 0 (by omega)
     simpa [Addr.add] using World.cell?_spot (this.trans (List.getElem?_eq_getElem (by omega)))
    obtain ⟨xs,kk,_,_,_,hxl,hfld⟩:=DataW.trod_struct Tryz.underlying26 h2
    have hg: ∀ j,j<3-> ∃ y,xs[j]? =some y:=fun j hj=>⟨_,List.getElem?_eq_getElem (by rw [hxl];exact hj)⟩
    obtain ⟨y0,k0⟩:=hg 0 (by omega)
    obtain ⟨y1,k1⟩:=hg 1 (by omega)
    obtain ⟨y2,k2⟩:=hg 2 (by omega)
    obtain ⟨a0,e0,_,_⟩:=DataW.trod_int Tryz.underlying3 ((hfld 0 _ rfl).trans k0)
    obtain ⟨a1,e1,_,_⟩:=DataW.trod_int Tryz.underlying3 ((hfld 1 _ rfl).trans k1)
    obtain ⟨a2,e2,_,_⟩:=DataW.trod_int Tryz.underlying3 ((hfld 2 _ rfl).trans k2)
    have g: ∀ j z,(cs'.drop j).take (Tryz.prog.cellsOf 3)=[z]->cs'[j]? =some z:=fun j z hz=>by
     rw [cellsI] at hz
     have:((cs'.drop j).take 1)[0]? =some z:=by rw [hz];rfl
     rw [List.getElem?_take,if_pos (by omega),List.getElem?_drop] at this
     simpa using this
    have ad: ∀ j,(a.add (i*3)).add j=⟨a.block,a.off+i*3+j,none⟩:=fun j=>by
     rw [Go.Deep.add_add]
     unfold Addr.add
     by_cases c:i*3+j=0
     . rw [if_pos c]
       have:i*3=0/\j=0:=by omega
       obtain ⟨bb,oo,ss⟩:=a
       simp only at hspot
       subst hspot
       simp [this.1,this.2]
     . rw [if_neg c];simp;try omega
    have f0:cs'[0]? =some (.int .i64 a0):=g 0 _ e0
    have f1:cs'[1]? =some (.int .i64 a1):=g 1 _ e1
    have f2:cs'[2]? =some (.int .i64 a2):=g 2 _ e2
    have c0:=hcell 0 (by omega)
    have c1:=hcell 1 (by omega)
    have c2:=hcell 2 (by omega)
    rw [ad,f0] at c0
    rw [ad,f1] at c1
    rw [ad,f2] at c2
    exact ⟨(a0,a1,a2),hspot,(by have:=lt_of_cell c0;exact this),c0,c1,c2⟩
   obtain ⟨q,hq⟩:=Go.Deep.choose_lt each
   refine ⟨some a,len,cap,q,rfl,by omega,hl,fun i hi=> ?_⟩
   obtain ⟨s,l,c0,c1,c2⟩:=hq i hi
   obtain ⟨bb,oo,ss⟩:=a
   simp only at s
   subst s
   exact ⟨bb,oo,rfl,l,c0,c1,c2⟩
end Go.Proofs.YtajfbieacfjhnaaGreatDoor.Au
