import Derived.Test.YthmobfelhpbllaaGreatDoorTUb
import Derived.MapKept
import Derived.Laws.Tables
import Derived.Test.YthmobfelhpbllaaGreatDoorKZb
import Derived.OwnWalk
import Derived.Laws.AppendOwn
import Derived.Great.Walk
namespace Go.Proofs.YthmobfelhpbllaaGreatDoor.Tl
open Go.ChangeShapes Go.WideShapes Go.ChangeAt Go.RowKit Go.Maps
set_option linter.unusedSimpArgs false
set_option linter.unusedVariables false
set_option maxRecDepth 8000
theorem load_pat {P:Program} {ops:Array Oper} {rest:List Oper} {ty t:TypeId} {x:Operand} {q:Tmp} {pos:String} {af:Array Edge} {a:Act} {w:World} {Q:Exit->Act->World->Prop} (b o:Nat) (cs:List Value) (d:TypeDesc) (hx:a.eval x=.pointer (some ⟨b,o,none⟩)) (hc:w.rangeAt b o cs)
 (hu:P.underlying ty=some d) (hd:d.isRow=true) (hi:(P.info? ty).map (·.size)=some cs.length)
 (h:wpList P ops Q rest (a.put (some q) (.agg cs.toArray)) w):wpList P ops Q ({ dst:=some q,op:=.load ty x,type:=t,pos:=pos,after:=af,guard:=none }::rest) a w :=
 wpList_load_mid rfl ty x rfl b o hx cs d hc hu hd hi h
theorem set_info:(Tryz.prog.info? 91).map (·.size)=some 18:=by kernel_rfl
theorem own1 (w:World) (o:Obj):(w.alloc o).heap[w.heap.size]? =some o:=(MapKept.heap_alloc w o).1
theorem own2b (w:World) (o p:Obj):((w.alloc o).alloc p).heap[w.heap.size+1]? =some p:=by
 have:=own1 (w.alloc o) p
 rw [World.size_alloc] at this;exact this
theorem there_block {w:World} {b:Nat} {C:Array Value} {t:TypeId} (h:w.heap[b]? =some (.cells C t (0,0))):w.there b 0 C.size:=fun j hj=>by
 rw [Nat.zero_add]
 exact ⟨by rw [Go.Joins.cell_of_block h j,Array.getElem?_eq_getElem hj];rfl,Go.Joins.unfrozen_of_block h j⟩
theorem below_setCells {w x:World} (h:Below w.heap.size w x) (b o:Nat) (vs:List Value) (hb:w.heap.size<=b):Below w.heap.size w (x.setCells b o vs):=by
 have g:=grown_setCells b vs o x
 exact h.trans ⟨g.os,g.tape,g.output,g.size,fun k hk=>g.block k (Nat.lt_of_lt_of_le hk h.size) (fun e=>by have:=Option.some.inj e;omega)⟩
theorem ix0 (a0 a1 a2 a3 a4 a5 a6 a7 a8 a9 a10 a11 a12 a13 a14 a15 a16 a17:Value) (W:World):(Instr.index 91 (.agg #[a0,a1,a2,a3,a4,a5,a6,a7,a8,a9,a10,a11,a12,a13,a14,a15,a16,a17]) (.int .i64 0)).run Tryz.prog W=.ok (.agg #[a0,a1,a2,a3,a4,a5,a6,a7,a8]) W:=by kernel_rfl
theorem ix1 (a0 a1 a2 a3 a4 a5 a6 a7 a8 a9 a10 a11 a12 a13 a14 a15 a16 a17:Value) (W:World):(Instr.index 91 (.agg #[a0,a1,a2,a3,a4,a5,a6,a7,a8,a9,a10,a11,a12,a13,a14,a15,a16,a17]) (.int .i64 1)).run Tryz.prog W=.ok (.agg #[a9,a10,a11,a12,a13,a14,a15,a16,a17]) W:=by kernel_rfl
end Go.Proofs.YthmobfelhpbllaaGreatDoor.Tl
namespace Go.Proofs.YthmobfelhpbllaaGreatDoor.Tl
open Go.ChangeShapes Go.WideShapes Go.ChangeAt Go.RowKit Go.Maps
set_option linter.unusedSimpArgs false
set_option linter.unusedVariables false
set_option maxRecDepth 8000
end Go.Proofs.YthmobfelhpbllaaGreatDoor.Tl
namespace Go.Proofs.YthmobfelhpbllaaGreatDoor.Tl
open Go.ChangeShapes Go.WideShapes Go.ChangeAt Go.RowKit Go.Maps
set_option linter.unusedSimpArgs false
set_option linter.unusedVariables false
set_option maxRecDepth 8000
def flatT (T:Nat->Ln):List Value:=[.bool (T (0)).v,.int .i64 (T (0)).t,.int .i64 (T (0)).p,.int .i64 (T (0)).f,.bool (T (0)).w,.bool (T (0)).u,.bool (T (0)).x,.bool (T (0)).g,.bool (T (0)).d,.bool (T (1)).v,.int .i64 (T (1)).t,.int .i64 (T (1)).p,.int .i64 (T (1)).f,.bool (T (1)).w,.bool (T (1)).u,.bool (T (1)).x,.bool (T (1)).g,.bool (T (1)).d,.bool (T (2)).v,.int .i64 (T (2)).t,.int .i64 (T (2)).p,.int .i64 (T (2)).f,.bool (T (2)).w,.bool (T (2)).u,.bool (T (2)).x,.bool (T (2)).g,.bool (T (2)).d,.bool (T (3)).v,.int .i64 (T (3)).t,.int .i64 (T (3)).p,.int .i64 (T (3)).f,.bool (T (3)).w,.bool (T (3)).u,.bool (T (3)).x,.bool (T (3)).g,.bool (T (3)).d,.bool (T (4)).v,.int .i64 (T (4)).t,.int .i64 (T (4)).p,.int .i64 (T (4)).f,.bool (T (4)).w,.bool (T (4)).u,.bool (T (4)).x,.bool (T (4)).g,.bool (T (4)).d,.bool (T (5)).v,.int .i64 (T (5)).t,.int .i64 (T (5)).p,.int .i64 (T (5)).f,.bool (T (5)).w,.bool (T (5)).u,.bool (T (5)).x,.bool (T (5)).g,.bool (T (5)).d,.bool (T (6)).v,.int .i64 (T (6)).t,.int .i64 (T (6)).p,.int .i64 (T (6)).f,.bool (T (6)).w,.bool (T (6)).u,.bool (T (6)).x,.bool (T (6)).g,.bool (T (6)).d,.bool (T (7)).v,.int .i64 (T (7)).t,.int .i64 (T (7)).p,.int .i64 (T (7)).f,.bool (T (7)).w,.bool (T (7)).u,.bool (T (7)).x,.bool (T (7)).g,.bool (T (7)).d,.bool (T (8)).v,.int .i64 (T (8)).t,.int .i64 (T (8)).p,.int .i64 (T (8)).f,.bool (T (8)).w,.bool (T (8)).u,.bool (T (8)).x,.bool (T (8)).g,.bool (T (8)).d,.bool (T (9)).v,.int .i64 (T (9)).t,.int .i64 (T (9)).p,.int .i64 (T (9)).f,.bool (T (9)).w,.bool (T (9)).u,.bool (T (9)).x,.bool (T (9)).g,.bool (T (9)).d,.bool (T (10)).v,.int .i64 (T (10)).t,.int .i64 (T (10)).p,.int .i64 (T (10)).f,.bool (T (10)).w,.bool (T (10)).u,.bool (T (10)).x,.bool (T (10)).g,.bool (T (10)).d,.bool (T (11)).v,.int .i64 (T (11)).t,.int .i64 (T (11)).p,.int .i64 (T (11)).f,.bool (T (11)).w,.bool (T (11)).u,.bool (T (11)).x,.bool (T (11)).g,.bool (T (11)).d,.bool (T (12)).v,.int .i64 (T (12)).t,.int .i64 (T (12)).p,.int .i64 (T (12)).f,.bool (T (12)).w,.bool (T (12)).u,.bool (T (12)).x,.bool (T (12)).g,.bool (T (12)).d,.bool (T (13)).v,.int .i64 (T (13)).t,.int .i64 (T (13)).p,.int .i64 (T (13)).f,.bool (T (13)).w,.bool (T (13)).u,.bool (T (13)).x,.bool (T (13)).g,.bool (T (13)).d,.bool (T (14)).v,.int .i64 (T (14)).t,.int .i64 (T (14)).p,.int .i64 (T (14)).f,.bool (T (14)).w,.bool (T (14)).u,.bool (T (14)).x,.bool (T (14)).g,.bool (T (14)).d,.bool (T (15)).v,.int .i64 (T (15)).t,.int .i64 (T (15)).p,.int .i64 (T (15)).f,.bool (T (15)).w,.bool (T (15)).u,.bool (T (15)).x,.bool (T (15)).g,.bool (T (15)).d]
theorem flat_range {w:World} {b:Nat} {T:Nat->Ln} (h:IsTlb w b T):w.rangeAt b 0 (flatT T):=by
 intro j v hv
 have hj:j<144:=(List.getElem?_eq_some_iff.1 hv).1
 have hd:j=j / 9*9+j % 9:=by omega
 have:=h.1 (j / 9) (by omega) (j % 9) v
 rw [Nat.zero_add]
 rw [<- hd] at this
 refine this ?_
 rw [<- hv]
 clear this hv
 generalize hq:j / 9=q at hd
 generalize hr:j % 9=r at hd
 have q16:q<16:=by omega
 have r9:r<9:=by omega
 subst hd
 clear hq hr hj
 rcases (show q=0\/q=1\/q=2\/q=3\/q=4\/q=5\/q=6\/q=7\/q=8\/q=9\/q=10\/q=11\/q=12\/q=13\/q=14\/q=15 by omega) with rfl | rfl | rfl | rfl | rfl | rfl | rfl | rfl | rfl | rfl | rfl | rfl | rfl | rfl | rfl | rfl <;> rcases (show r=0\/r=1\/r=2\/r=3\/r=4\/r=5\/r=6\/r=7\/r=8 by omega) with rfl | rfl | rfl | rfl | rfl | rfl | rfl | rfl | rfl <;> rfl
theorem all_info:(Tryz.prog.info? 92).map (·.size)=some 144:=by kernel_rfl
theorem ixk (T:Nat->Ln) (k:Nat) (hk:k<8) (W:World):(Instr.index 92 (.agg (flatT T).toArray) (.int .i64 k)).run Tryz.prog W=.ok (.agg #[.bool (T (2*k)).v,.int .i64 (T (2*k)).t,.int .i64 (T (2*k)).p,.int .i64 (T (2*k)).f,.bool (T (2*k)).w,.bool (T (2*k)).u,.bool (T (2*k)).x,.bool (T (2*k)).g,.bool (T (2*k)).d,.bool (T (2*k+1)).v,.int .i64 (T (2*k+1)).t,.int .i64 (T (2*k+1)).p,.int .i64 (T (2*k+1)).f,.bool (T (2*k+1)).w,.bool (T (2*k+1)).u,.bool (T (2*k+1)).x,.bool (T (2*k+1)).g,.bool (T (2*k+1)).d]) W:=by
 rcases (show k=0\/k=1\/k=2\/k=3\/k=4\/k=5\/k=6\/k=7 by omega) with rfl | rfl | rfl | rfl | rfl | rfl | rfl | rfl
 . kernel_rfl
 . kernel_rfl
 . kernel_rfl
 . kernel_rfl
 . kernel_rfl
 . kernel_rfl
 . kernel_rfl
 . kernel_rfl
def zline:Value:=.agg #[.bool false,.int .i64 0,.int .i64 0,.int .i64 0,.bool false,.bool false,.bool false,.bool false,.bool false]
theorem line_info5:(Tryz.prog.info? 51).map (fun i=>(i.zero,i.size,i.bytes))=some (some zline,9,40):=by kernel_rfl
theorem info5 {P:Program} {e:TypeId} {z:Value} {s b:Nat} (h:(P.info? e).map (fun i=>(i.zero,i.size,i.bytes))=some (some z,s,b)): ∃ i:TypeInfo,P.info? e=some i/\i.zero=some z/\i.size=s/\i.bytes=b:=by
 cases hq:P.info? e with
 | none => simp [hq] at h
 | some i =>
  simp [hq] at h
  exact ⟨i,rfl,h.1,h.2.1,h.2.2⟩
theorem own_keep {w w':World} {base n e s:Nat} {v:Value} {xs:List Value} (h:w.ownsRow base e s v n xs) (hb:Below w.heap.size w w'):w'.ownsRow base e s v n xs:=by
 obtain ⟨h1,h2⟩:=h
 refine ⟨h1,?_⟩
 rcases h2 with h2 | ⟨g',cap',cur,e1,e2,e3,e4⟩
 . exact Or.inl h2
 . have hg':g'<w.heap.size:=(Array.getElem?_eq_some_iff.1 e3).1
   exact Or.inr ⟨g',cap',cur,e1,e2,(hb.block g' hg').trans e3,e4⟩
theorem own_base {w:World} {base n e s:Nat} {v:Value} {xs:List Value} (h:w.ownsRow base e s v n xs): ∀ j,v.ownBlock=some j->base<=j:=by
 obtain ⟨h1,h2⟩:=h
 rcases h2 with h2 | ⟨g',cap',cur,e1,e2,e3,e4⟩
 . rw [h2.1];intro j hj;cases hj
 . rw [e1];intro j hj;cases hj;exact e2
theorem news_cells (u:World) (o:Obj) (C:Array Value) (t:TypeId): ∀ j x,C.toList[j]? =some x->((u.alloc o).alloc (.cells C t)).cell? ((⟨u.heap.size+1,0,none⟩:Addr).add j)=some x:=by
 intro j x hx
 rw [Addr.add_mid,Nat.zero_add]
 exact (Go.Joins.cell_of_block (own2b u o (.cells C t)) j).trans (by simpa using hx)
def linesT (T:Nat->Ln):Nat->List Ln
 | 0 => []
 | m + 1 => linesT T m ++ (if (T m).v then [T m] else [])
theorem lines_len (T:Nat->Ln): ∀ m,(linesT T m).length<=m
 | 0 => by simp [linesT]
 | m + 1 => by
  have:=lines_len T m
  simp only [linesT,List.length_append]
  split <;> simp <;> omega
theorem lines_yes (T:Nat->Ln) (m:Nat) (h:(T m).v=true):linesT T (m+1)=linesT T m++[T m]:=by simp [linesT,h]
theorem lines_no (T:Nat->Ln) (m:Nat) (h:(T m).v=false):linesT T (m+1)=linesT T m:=by simp [linesT,h]
end Go.Proofs.YthmobfelhpbllaaGreatDoor.Tl
namespace Go.Proofs.YthmobfelhpbllaaGreatDoor.Tl
open Go.ChangeShapes Go.WideShapes Go.ChangeAt Go.RowKit Go.Maps
set_option linter.unusedSimpArgs false
set_option linter.unusedVariables false
set_option maxRecDepth 8000
theorem zero27 (W:World):(zeroValue 91).run Tryz.prog W=.ok (.agg #[.bool false,.int .i64 0,.int .i64 0,.int .i64 0,.bool false,.bool false,.bool false,.bool false,.bool false,.bool false,.int .i64 0,.int .i64 0,.int .i64 0,.bool false,.bool false,.bool false,.bool false,.bool false]) W:=by kernel_rfl
theorem below_grown {w U a0:World} {v:Value} {base n e s:Nat} {xs:List Value} (B:Below w.heap.size w U) (O:U.ownsRow w.heap.size e s v n xs) (hg:U.grownBy a0 v.ownBlock):Below w.heap.size w a0 :=
 B.grown hg B.size (fun j ej=>own_base O j ej)
set_option maxHeartbeats 2000000 in
theorem lines_any (b:Nat) (T:Nat->Ln) (w:World) (h:IsTlb w b T) :
 Calls Tryz.prog 12 #[.pointer (some ⟨b,0,none⟩)] w fun e w'=> ∃ v,e=.returned v/\w'.ownsRow w.heap.size 51 9 v (linesT T 16).length ((linesT T 16).flatMap Ln.enc)/\Below w.heap.size w w':=by
 obtain ⟨i0,hi,hz0,hz1,hz2⟩:=info5 line_info5
 have RG:Hid (w.rangeAt b 0 (flatT T)):=flat_range h
 have ZV:=zero27
 have IX0:=ix0
 have IX1:=ix1
 have IK: ∀ (k:Nat),k<8-> ∀ (W:World),(Instr.index 92 (.agg (flatT T).toArray) (.int .i64 k)).run Tryz.prog W=.ok (.agg #[.bool (T (2*k)).v,.int .i64 (T (2*k)).t,.int .i64 (T (2*k)).p,.int .i64 (T (2*k)).f,.bool (T (2*k)).w,.bool (T (2*k)).u,.bool (T (2*k)).x,.bool (T (2*k)).g,.bool (T (2*k)).d,.bool (T (2*k+1)).v,.int .i64 (T (2*k+1)).t,.int .i64 (T (2*k+1)).p,.int .i64 (T (2*k+1)).f,.bool (T (2*k+1)).w,.bool (T (2*k+1)).u,.bool (T (2*k+1)).x,.bool (T (2*k+1)).g,.bool (T (2*k+1)).d]) W:=fun k hk W=>ixk T k hk W
 have FL:Hid ((flatT T).length=144):=rfl
 have fl:(flatT T).length=144:=rfl
 clear h
 generalize hf:flatT T=FT at RG IK FL fl
 clear hf
 go_enter Tryz.func12,Tryz.ntmps12
 go_wp2_with (refine load_pat b 0 FT (.array 8 91) ?hx ?hc ?hu ?hd ?hi ?rest;(case hx=>rfl);(case hc=>exact RG.out);(case hu=>exact Tryz.underlying92);(case hd=>rfl);(case hi=>rw [FL.out];exact all_info))
 go_loopw [3,12] (fun v x W=> ∃ k:Nat,k<=8/\x=.int .i64 k/\Hid (W.ownsRow w.heap.size 51 9 v (linesT T (2*k)).length ((linesT T (2*k)).flatMap Ln.enc))/\Hid (Below w.heap.size w W)) (fun _ x _=>8-(intOf x).toNat)
 case atStart=>exact ⟨0,by omega,rfl,⟨rfl,Or.inl ⟨rfl,rfl⟩⟩,Below.refl _ _⟩
 case round =>
  obtain ⟨k,hk,rfl,O,B⟩:=hrel
  by_cases hlt:k<8
  . have hd:decide ((k:Int)<8)=true:=by simp;omega
    have LN:Hid ((linesT T (2*k)).length<=16):=Nat.le_trans (lines_len T (2*k)) (by omega)
    have ik:=IK k hlt
    clear IK RG
    obtain ⟨l0,h0⟩: ∃ l,T (2*k)=l:=⟨_,rfl⟩
    obtain ⟨l1,h1⟩: ∃ l,T (2*k+1)=l:=⟨_,rfl⟩
    rw [h0,h1] at ik
    have H0:Hid (T (2*k)=l0):=h0
    have H1:Hid (T (2*k+1)=l1):=h1
    clear h0 h1
    obtain ⟨b0,t0,p0,q0,x0,y0,z0,g0,d0⟩:=l0
    obtain ⟨b1,t1,p1,q1,x1,y1,z1,g1,d1⟩:=l1
    simp only at ik
    have HK:Hid _:=ik
    clear ik
    cases b0 <;> cases b1
    . go_wp2_with fail
      rw [HK.out]
      simp only [Result.andThen_ok,Oper.upon]
      refine (‹∀ (a:Act) (w:World),wpList _ _ _ _ a w->_› _ _ ?_)
      refine Go.Great.wpList_allocTo rfl (some 5) rfl (.pointer (some ⟨wr.heap.size,0,none⟩)) (.cells #[.bool false,.int .i64 0,.int .i64 0,.int .i64 0,.bool false,.bool false,.bool false,.bool false,.bool false,.bool false,.int .i64 0,.int .i64 0,.int .i64 0,.bool false,.bool false,.bool false,.bool false,.bool false] 91) (by kernel_rfl) ?_
      simp only [Act.put,List.setIfInBounds_toArray,List.set_cons_zero,List.set_cons_succ]
      have TH:(wr.alloc (.cells #[.bool false,.int .i64 0,.int .i64 0,.int .i64 0,.bool false,.bool false,.bool false,.bool false,.bool false,.bool false,.int .i64 0,.int .i64 0,.int .i64 0,.bool false,.bool false,.bool false,.bool false,.bool false] 91)).there wr.heap.size 0 18:=there_block (own1 wr _)
      refine store_pat wr.heap.size 0 #[.bool false,.int .i64 t0,.int .i64 p0,.int .i64 q0,.bool x0,.bool y0,.bool z0,.bool g0,.bool d0,.bool false,.int .i64 t1,.int .i64 p1,.int .i64 q1,.bool x1,.bool y1,.bool z1,.bool g1,.bool d1] rfl rfl TH set_info (by simp [Value.oneCell']) ?_
      have R:Hid (((wr.alloc (.cells #[.bool false,.int .i64 0,.int .i64 0,.int .i64 0,.bool false,.bool false,.bool false,.bool false,.bool false,.bool false,.int .i64 0,.int .i64 0,.int .i64 0,.bool false,.bool false,.bool false,.bool false,.bool false] 91)).setCells wr.heap.size 0 [.bool false,.int .i64 t0,.int .i64 p0,.int .i64 q0,.bool x0,.bool y0,.bool z0,.bool g0,.bool d0,.bool false,.int .i64 t1,.int .i64 p1,.int .i64 q1,.bool x1,.bool y1,.bool z1,.bool g1,.bool d1]).rangeAt wr.heap.size 0 [.bool false,.int .i64 t0,.int .i64 p0,.int .i64 q0,.bool x0,.bool y0,.bool z0,.bool g0,.bool d0,.bool false,.int .i64 t1,.int .i64 p1,.int .i64 q1,.bool x1,.bool y1,.bool z1,.bool g1,.bool d1]):=World.rangeAt_setCells_same _ wr.heap.size 0 _ TH
      have BW:Below wr.heap.size wr ((wr.alloc (.cells #[.bool false,.int .i64 0,.int .i64 0,.int .i64 0,.bool false,.bool false,.bool false,.bool false,.bool false,.bool false,.int .i64 0,.int .i64 0,.int .i64 0,.bool false,.bool false,.bool false,.bool false,.bool false] 91)).setCells wr.heap.size 0 [.bool false,.int .i64 t0,.int .i64 p0,.int .i64 q0,.bool x0,.bool y0,.bool z0,.bool g0,.bool d0,.bool false,.int .i64 t1,.int .i64 p1,.int .i64 q1,.bool x1,.bool y1,.bool z1,.bool g1,.bool d1]):=below_setCells (Go.Joins.below_alloc1 wr _) _ _ _ (Nat.le_refl _)
      have O0:Hid (((wr.alloc (.cells #[.bool false,.int .i64 0,.int .i64 0,.int .i64 0,.bool false,.bool false,.bool false,.bool false,.bool false,.bool false,.int .i64 0,.int .i64 0,.int .i64 0,.bool false,.bool false,.bool false,.bool false,.bool false] 91)).setCells wr.heap.size 0 [.bool false,.int .i64 t0,.int .i64 p0,.int .i64 q0,.bool x0,.bool y0,.bool z0,.bool g0,.bool d0,.bool false,.int .i64 t1,.int .i64 p1,.int .i64 q1,.bool x1,.bool y1,.bool z1,.bool g1,.bool d1]).ownsRow w.heap.size 51 9 u3 (linesT T (2*k)).length ((linesT T (2*k)).flatMap Ln.enc)):=own_keep O.out BW
      have B0:Hid (Below w.heap.size w ((wr.alloc (.cells #[.bool false,.int .i64 0,.int .i64 0,.int .i64 0,.bool false,.bool false,.bool false,.bool false,.bool false,.bool false,.int .i64 0,.int .i64 0,.int .i64 0,.bool false,.bool false,.bool false,.bool false,.bool false] 91)).setCells wr.heap.size 0 [.bool false,.int .i64 t0,.int .i64 p0,.int .i64 q0,.bool x0,.bool y0,.bool z0,.bool g0,.bool d0,.bool false,.int .i64 t1,.int .i64 p1,.int .i64 q1,.bool x1,.bool y1,.bool z1,.bool g1,.bool d1])):=below_then B.out BW
      clear TH BW HK
      simp only [List.toList_toArray]
      generalize (wr.alloc (.cells #[.bool false,.int .i64 0,.int .i64 0,.int .i64 0,.bool false,.bool false,.bool false,.bool false,.bool false,.bool false,.int .i64 0,.int .i64 0,.int .i64 0,.bool false,.bool false,.bool false,.bool false,.bool false] 91)).setCells wr.heap.size 0 [.bool false,.int .i64 t0,.int .i64 p0,.int .i64 q0,.bool x0,.bool y0,.bool z0,.bool g0,.bool d0,.bool false,.int .i64 t1,.int .i64 p1,.int .i64 q1,.bool x1,.bool y1,.bool z1,.bool g1,.bool d1]=U0 at R O0 B0 |-
      go_step
      simp only [Exit.then]
      refine (‹∀ (a:Act) (w:World),Code.wp _ _ _ a w->_› _ _ ?_)
      go_step
      go_step
      refine load_pat wr.heap.size 0 [.bool false,.int .i64 t0,.int .i64 p0,.int .i64 q0,.bool x0,.bool y0,.bool z0,.bool g0,.bool d0,.bool false,.int .i64 t1,.int .i64 p1,.int .i64 q1,.bool x1,.bool y1,.bool z1,.bool g1,.bool d1] (.array 2 51) rfl R.out Tryz.underlying91 rfl set_info ?_
      simp only [Act.put,List.setIfInBounds_toArray,List.set_cons_zero,List.set_cons_succ]
      clear R
      go_wp2_with fail
      refine wp_loop_rounds 3 ?_
      rw [rounds_succ]
      go_wp2_with fail
      have O1:Hid ((U0.alloc (.cells #[.bool false,.int .i64 t0,.int .i64 p0,.int .i64 q0,.bool x0,.bool y0,.bool z0,.bool g0,.bool d0] 51)).ownsRow w.heap.size 51 9 u3 ((linesT T (2*k)).length) ((linesT T (2*k)).flatMap Ln.enc)):=own_keep O0.out (Go.Joins.below_alloc1 _ _)
      have B1:Hid (Below w.heap.size w (U0.alloc (.cells #[.bool false,.int .i64 t0,.int .i64 p0,.int .i64 q0,.bool x0,.bool y0,.bool z0,.bool g0,.bool d0] 51))):=below_new B0.out _
      generalize U0.alloc (.cells #[.bool false,.int .i64 t0,.int .i64 p0,.int .i64 q0,.bool x0,.bool y0,.bool z0,.bool g0,.bool d0] 51)=a0 at O1 B1 |-
      rw [rounds_succ]
      go_wp2_with fail
      have O2:Hid ((a0.alloc (.cells #[.bool false,.int .i64 t1,.int .i64 p1,.int .i64 q1,.bool x1,.bool y1,.bool z1,.bool g1,.bool d1] 51)).ownsRow w.heap.size 51 9 u3 ((linesT T (2*k)).length) ((linesT T (2*k)).flatMap Ln.enc)):=own_keep O1.out (Go.Joins.below_alloc1 _ _)
      have B2:Hid (Below w.heap.size w (a0.alloc (.cells #[.bool false,.int .i64 t1,.int .i64 p1,.int .i64 q1,.bool x1,.bool y1,.bool z1,.bool g1,.bool d1] 51))):=below_new B1.out _
      generalize a0.alloc (.cells #[.bool false,.int .i64 t1,.int .i64 p1,.int .i64 q1,.bool x1,.bool y1,.bool z1,.bool g1,.bool d1] 51)=a1 at O2 B2 |-
      have OF:Hid (a1.ownsRow w.heap.size 51 9 u3 (linesT T (2*(k+1))).length ((linesT T (2*(k+1))).flatMap Ln.enc)):=by
       have e:linesT T (2*(k+1))=linesT T (2*k):=by
        rw [show 2*(k+1)=2*k+1+1 by omega,lines_no T (2*k+1) (by rw [H1.out]),lines_no T (2*k) (by rw [H0.out])]
       have:=O2.out
       show World.ownsRow _ _ _ _ _ _ _
       rw [e]
       try simp only [List.length_append,List.length_cons,List.length_nil,List.flatMap_append,List.flatMap_cons,List.flatMap_nil,List.append_nil] at this |-
       exact this
      rw [rounds_succ]
      go_wp2_with fail
      go_roundw
      case rel=>exact ⟨k+1,by omega,by go_num,OF,B2⟩
      case measure=>simp [intOf];omega
    . go_wp2_with fail
      rw [HK.out]
      simp only [Result.andThen_ok,Oper.upon]
      refine (‹∀ (a:Act) (w:World),wpList _ _ _ _ a w->_› _ _ ?_)
      refine Go.Great.wpList_allocTo rfl (some 5) rfl (.pointer (some ⟨wr.heap.size,0,none⟩)) (.cells #[.bool false,.int .i64 0,.int .i64 0,.int .i64 0,.bool false,.bool false,.bool false,.bool false,.bool false,.bool false,.int .i64 0,.int .i64 0,.int .i64 0,.bool false,.bool false,.bool false,.bool false,.bool false] 91) (by kernel_rfl) ?_
      simp only [Act.put,List.setIfInBounds_toArray,List.set_cons_zero,List.set_cons_succ]
      have TH:(wr.alloc (.cells #[.bool false,.int .i64 0,.int .i64 0,.int .i64 0,.bool false,.bool false,.bool false,.bool false,.bool false,.bool false,.int .i64 0,.int .i64 0,.int .i64 0,.bool false,.bool false,.bool false,.bool false,.bool false] 91)).there wr.heap.size 0 18:=there_block (own1 wr _)
      refine store_pat wr.heap.size 0 #[.bool false,.int .i64 t0,.int .i64 p0,.int .i64 q0,.bool x0,.bool y0,.bool z0,.bool g0,.bool d0,.bool true,.int .i64 t1,.int .i64 p1,.int .i64 q1,.bool x1,.bool y1,.bool z1,.bool g1,.bool d1] rfl rfl TH set_info (by simp [Value.oneCell']) ?_
      have R:Hid (((wr.alloc (.cells #[.bool false,.int .i64 0,.int .i64 0,.int .i64 0,.bool false,.bool false,.bool false,.bool false,.bool false,.bool false,.int .i64 0,.int .i64 0,.int .i64 0,.bool false,.bool false,.bool false,.bool false,.bool false] 91)).setCells wr.heap.size 0 [.bool false,.int .i64 t0,.int .i64 p0,.int .i64 q0,.bool x0,.bool y0,.bool z0,.bool g0,.bool d0,.bool true,.int .i64 t1,.int .i64 p1,.int .i64 q1,.bool x1,.bool y1,.bool z1,.bool g1,.bool d1]).rangeAt wr.heap.size 0 [.bool false,.int .i64 t0,.int .i64 p0,.int .i64 q0,.bool x0,.bool y0,.bool z0,.bool g0,.bool d0,.bool true,.int .i64 t1,.int .i64 p1,.int .i64 q1,.bool x1,.bool y1,.bool z1,.bool g1,.bool d1]):=World.rangeAt_setCells_same _ wr.heap.size 0 _ TH
      have BW:Below wr.heap.size wr ((wr.alloc (.cells #[.bool false,.int .i64 0,.int .i64 0,.int .i64 0,.bool false,.bool false,.bool false,.bool false,.bool false,.bool false,.int .i64 0,.int .i64 0,.int .i64 0,.bool false,.bool false,.bool false,.bool false,.bool false] 91)).setCells wr.heap.size 0 [.bool false,.int .i64 t0,.int .i64 p0,.int .i64 q0,.bool x0,.bool y0,.bool z0,.bool g0,.bool d0,.bool true,.int .i64 t1,.int .i64 p1,.int .i64 q1,.bool x1,.bool y1,.bool z1,.bool g1,.bool d1]):=below_setCells (Go.Joins.below_alloc1 wr _) _ _ _ (Nat.le_refl _)
      have O0:Hid (((wr.alloc (.cells #[.bool false,.int .i64 0,.int .i64 0,.int .i64 0,.bool false,.bool false,.bool false,.bool false,.bool false,.bool false,.int .i64 0,.int .i64 0,.int .i64 0,.bool false,.bool false,.bool false,.bool false,.bool false] 91)).setCells wr.heap.size 0 [.bool false,.int .i64 t0,.int .i64 p0,.int .i64 q0,.bool x0,.bool y0,.bool z0,.bool g0,.bool d0,.bool true,.int .i64 t1,.int .i64 p1,.int .i64 q1,.bool x1,.bool y1,.bool z1,.bool g1,.bool d1]).ownsRow w.heap.size 51 9 u3 (linesT T (2*k)).length ((linesT T (2*k)).flatMap Ln.enc)):=own_keep O.out BW
      have B0:Hid (Below w.heap.size w ((wr.alloc (.cells #[.bool false,.int .i64 0,.int .i64 0,.int .i64 0,.bool false,.bool false,.bool false,.bool false,.bool false,.bool false,.int .i64 0,.int .i64 0,.int .i64 0,.bool false,.bool false,.bool false,.bool false,.bool false] 91)).setCells wr.heap.size 0 [.bool false,.int .i64 t0,.int .i64 p0,.int .i64 q0,.bool x0,.bool y0,.bool z0,.bool g0,.bool d0,.bool true,.int .i64 t1,.int .i64 p1,.int .i64 q1,.bool x1,.bool y1,.bool z1,.bool g1,.bool d1])):=below_then B.out BW
      clear TH BW HK
      simp only [List.toList_toArray]
      generalize (wr.alloc (.cells #[.bool false,.int .i64 0,.int .i64 0,.int .i64 0,.bool false,.bool false,.bool false,.bool false,.bool false,.bool false,.int .i64 0,.int .i64 0,.int .i64 0,.bool false,.bool false,.bool false,.bool false,.bool false] 91)).setCells wr.heap.size 0 [.bool false,.int .i64 t0,.int .i64 p0,.int .i64 q0,.bool x0,.bool y0,.bool z0,.bool g0,.bool d0,.bool true,.int .i64 t1,.int .i64 p1,.int .i64 q1,.bool x1,.bool y1,.bool z1,.bool g1,.bool d1]=U0 at R O0 B0 |-
      go_step
      simp only [Exit.then]
      refine (‹∀ (a:Act) (w:World),Code.wp _ _ _ a w->_› _ _ ?_)
      go_step
      go_step
      refine load_pat wr.heap.size 0 [.bool false,.int .i64 t0,.int .i64 p0,.int .i64 q0,.bool x0,.bool y0,.bool z0,.bool g0,.bool d0,.bool true,.int .i64 t1,.int .i64 p1,.int .i64 q1,.bool x1,.bool y1,.bool z1,.bool g1,.bool d1] (.array 2 51) rfl R.out Tryz.underlying91 rfl set_info ?_
      simp only [Act.put,List.setIfInBounds_toArray,List.set_cons_zero,List.set_cons_succ]
      clear R
      go_wp2_with fail
      refine wp_loop_rounds 3 ?_
      rw [rounds_succ]
      go_wp2_with fail
      have O1:Hid ((U0.alloc (.cells #[.bool false,.int .i64 t0,.int .i64 p0,.int .i64 q0,.bool x0,.bool y0,.bool z0,.bool g0,.bool d0] 51)).ownsRow w.heap.size 51 9 u3 ((linesT T (2*k)).length) ((linesT T (2*k)).flatMap Ln.enc)):=own_keep O0.out (Go.Joins.below_alloc1 _ _)
      have B1:Hid (Below w.heap.size w (U0.alloc (.cells #[.bool false,.int .i64 t0,.int .i64 p0,.int .i64 q0,.bool x0,.bool y0,.bool z0,.bool g0,.bool d0] 51))):=below_new B0.out _
      generalize U0.alloc (.cells #[.bool false,.int .i64 t0,.int .i64 p0,.int .i64 q0,.bool x0,.bool y0,.bool z0,.bool g0,.bool d0] 51)=a0 at O1 B1 |-
      rw [rounds_succ]
      have OW:Hid ((((a0.alloc (.cells #[.bool true,.int .i64 t1,.int .i64 p1,.int .i64 q1,.bool x1,.bool y1,.bool z1,.bool g1,.bool d1] 51)).alloc (.cells #[.bool true,.int .i64 t1,.int .i64 p1,.int .i64 q1,.bool x1,.bool y1,.bool z1,.bool g1,.bool d1] 51))).ownsRow w.heap.size 51 9 u3 ((linesT T (2*k)).length) ((linesT T (2*k)).flatMap Ln.enc)):=own_keep O1.out (Go.Joins.below_alloc2 _ _ _)
      have NW:Hid (∀ j x,([.bool true,.int .i64 t1,.int .i64 p1,.int .i64 q1,.bool x1,.bool y1,.bool z1,.bool g1,.bool d1]:List Value)[j]? =some x->((a0.alloc (.cells #[.bool true,.int .i64 t1,.int .i64 p1,.int .i64 q1,.bool x1,.bool y1,.bool z1,.bool g1,.bool d1] 51)).alloc (.cells #[.bool true,.int .i64 t1,.int .i64 p1,.int .i64 q1,.bool x1,.bool y1,.bool z1,.bool g1,.bool d1] 51)).cell? ((⟨a0.heap.size+1,0,none⟩:Addr).add j)=some x):=news_cells a0 _ #[.bool true,.int .i64 t1,.int .i64 p1,.int .i64 q1,.bool x1,.bool y1,.bool z1,.bool g1,.bool d1] 51
      have ON:Hid (∀ x∈([.bool true,.int .i64 t1,.int .i64 p1,.int .i64 q1,.bool x1,.bool y1,.bool z1,.bool g1,.bool d1]:List Value),x.oneCell'=true):=by show ∀ x∈([.bool true,.int .i64 t1,.int .i64 p1,.int .i64 q1,.bool x1,.bool y1,.bool z1,.bool g1,.bool d1]:List Value),x.oneCell'=true;simp [Value.oneCell']
      have HZ:Hid (w.heap.size<=((a0.alloc (.cells #[.bool true,.int .i64 t1,.int .i64 p1,.int .i64 q1,.bool x1,.bool y1,.bool z1,.bool g1,.bool d1] 51)).alloc (.cells #[.bool true,.int .i64 t1,.int .i64 p1,.int .i64 q1,.bool x1,.bool y1,.bool z1,.bool g1,.bool d1] 51)).heap.size):=by show _<=_;rw [World.size_alloc,World.size_alloc];have:=B1.out.size;omega
      have MX:Hid ((linesT T (2*k)).length+1<=maxLen):=by show _<=_;unfold maxLen;have:=LN.out;omega
      have BY:Hid (((linesT T (2*k)).length+1)*40<=140737488355328):=by show _<=_;have:=LN.out;omega
      go_wp2_with (at_builtin;refine wpList_append_own _ rfl _ _ 38 rfl w.heap.size 51 i0 zline 9 40 Tryz.underlying38 hi hz0 hz1 hz2 rfl (by decide) u3 ((linesT T (2*k)).length) ((linesT T (2*k)).flatMap Ln.enc) rfl OW.out ⟨a0.heap.size+1,0,none⟩ 1 1 ([.bool true,.int .i64 t1,.int .i64 p1,.int .i64 q1,.bool x1,.bool y1,.bool z1,.bool g1,.bool d1]:List Value) rfl rfl NW.out ON.out MX.out BY.out HZ.out ?_;intro v2 a1 hown hg hnil;have O2:Hid (a1.ownsRow w.heap.size 51 9 v2 ((linesT T (2*k)).length+1) (((linesT T (2*k)).flatMap Ln.enc)++[.bool true,.int .i64 t1,.int .i64 p1,.int .i64 q1,.bool x1,.bool y1,.bool z1,.bool g1,.bool d1])):=hown;have B2:Hid (Below w.heap.size w a1):=below_grown (base:=0) (B1.out.trans (Go.Joins.below_le (Go.Joins.below_alloc2 a0 _ _) B1.out.size)) OW.out hg;clear hown hg hnil OW NW ON HZ MX BY)
      go_wp2_with fail
      have OF:Hid (a1.ownsRow w.heap.size 51 9 v2 (linesT T (2*(k+1))).length ((linesT T (2*(k+1))).flatMap Ln.enc)):=by
       have e:linesT T (2*(k+1))=linesT T (2*k)++[(⟨true,t1,p1,q1,x1,y1,z1,g1,d1⟩:Ln)]:=by
        rw [show 2*(k+1)=2*k+1+1 by omega,lines_yes T (2*k+1) (by rw [H1.out]),lines_no T (2*k) (by rw [H0.out]),H1.out]
       have:=O2.out
       show World.ownsRow _ _ _ _ _ _ _
       rw [e]
       try simp only [List.length_append,List.length_cons,List.length_nil,List.flatMap_append,List.flatMap_cons,List.flatMap_nil,List.append_nil] at this |-
       exact this
      rw [rounds_succ]
      go_wp2_with fail
      go_roundw
      case rel=>exact ⟨k+1,by omega,by go_num,OF,B2⟩
      case measure=>simp [intOf];omega
    . go_wp2_with fail
      rw [HK.out]
      simp only [Result.andThen_ok,Oper.upon]
      refine (‹∀ (a:Act) (w:World),wpList _ _ _ _ a w->_› _ _ ?_)
      refine Go.Great.wpList_allocTo rfl (some 5) rfl (.pointer (some ⟨wr.heap.size,0,none⟩)) (.cells #[.bool false,.int .i64 0,.int .i64 0,.int .i64 0,.bool false,.bool false,.bool false,.bool false,.bool false,.bool false,.int .i64 0,.int .i64 0,.int .i64 0,.bool false,.bool false,.bool false,.bool false,.bool false] 91) (by kernel_rfl) ?_
      simp only [Act.put,List.setIfInBounds_toArray,List.set_cons_zero,List.set_cons_succ]
      have TH:(wr.alloc (.cells #[.bool false,.int .i64 0,.int .i64 0,.int .i64 0,.bool false,.bool false,.bool false,.bool false,.bool false,.bool false,.int .i64 0,.int .i64 0,.int .i64 0,.bool false,.bool false,.bool false,.bool false,.bool false] 91)).there wr.heap.size 0 18:=there_block (own1 wr _)
      refine store_pat wr.heap.size 0 #[.bool true,.int .i64 t0,.int .i64 p0,.int .i64 q0,.bool x0,.bool y0,.bool z0,.bool g0,.bool d0,.bool false,.int .i64 t1,.int .i64 p1,.int .i64 q1,.bool x1,.bool y1,.bool z1,.bool g1,.bool d1] rfl rfl TH set_info (by simp [Value.oneCell']) ?_
      have R:Hid (((wr.alloc (.cells #[.bool false,.int .i64 0,.int .i64 0,.int .i64 0,.bool false,.bool false,.bool false,.bool false,.bool false,.bool false,.int .i64 0,.int .i64 0,.int .i64 0,.bool false,.bool false,.bool false,.bool false,.bool false] 91)).setCells wr.heap.size 0 [.bool true,.int .i64 t0,.int .i64 p0,.int .i64 q0,.bool x0,.bool y0,.bool z0,.bool g0,.bool d0,.bool false,.int .i64 t1,.int .i64 p1,.int .i64 q1,.bool x1,.bool y1,.bool z1,.bool g1,.bool d1]).rangeAt wr.heap.size 0 [.bool true,.int .i64 t0,.int .i64 p0,.int .i64 q0,.bool x0,.bool y0,.bool z0,.bool g0,.bool d0,.bool false,.int .i64 t1,.int .i64 p1,.int .i64 q1,.bool x1,.bool y1,.bool z1,.bool g1,.bool d1]):=World.rangeAt_setCells_same _ wr.heap.size 0 _ TH
      have BW:Below wr.heap.size wr ((wr.alloc (.cells #[.bool false,.int .i64 0,.int .i64 0,.int .i64 0,.bool false,.bool false,.bool false,.bool false,.bool false,.bool false,.int .i64 0,.int .i64 0,.int .i64 0,.bool false,.bool false,.bool false,.bool false,.bool false] 91)).setCells wr.heap.size 0 [.bool true,.int .i64 t0,.int .i64 p0,.int .i64 q0,.bool x0,.bool y0,.bool z0,.bool g0,.bool d0,.bool false,.int .i64 t1,.int .i64 p1,.int .i64 q1,.bool x1,.bool y1,.bool z1,.bool g1,.bool d1]):=below_setCells (Go.Joins.below_alloc1 wr _) _ _ _ (Nat.le_refl _)
      have O0:Hid (((wr.alloc (.cells #[.bool false,.int .i64 0,.int .i64 0,.int .i64 0,.bool false,.bool false,.bool false,.bool false,.bool false,.bool false,.int .i64 0,.int .i64 0,.int .i64 0,.bool false,.bool false,.bool false,.bool false,.bool false] 91)).setCells wr.heap.size 0 [.bool true,.int .i64 t0,.int .i64 p0,.int .i64 q0,.bool x0,.bool y0,.bool z0,.bool g0,.bool d0,.bool false,.int .i64 t1,.int .i64 p1,.int .i64 q1,.bool x1,.bool y1,.bool z1,.bool g1,.bool d1]).ownsRow w.heap.size 51 9 u3 (linesT T (2*k)).length ((linesT T (2*k)).flatMap Ln.enc)):=own_keep O.out BW
      have B0:Hid (Below w.heap.size w ((wr.alloc (.cells #[.bool false,.int .i64 0,.int .i64 0,.int .i64 0,.bool false,.bool false,.bool false,.bool false,.bool false,.bool false,.int .i64 0,.int .i64 0,.int .i64 0,.bool false,.bool false,.bool false,.bool false,.bool false] 91)).setCells wr.heap.size 0 [.bool true,.int .i64 t0,.int .i64 p0,.int .i64 q0,.bool x0,.bool y0,.bool z0,.bool g0,.bool d0,.bool false,.int .i64 t1,.int .i64 p1,.int .i64 q1,.bool x1,.bool y1,.bool z1,.bool g1,.bool d1])):=below_then B.out BW
      clear TH BW HK
      simp only [List.toList_toArray]
      generalize (wr.alloc (.cells #[.bool false,.int .i64 0,.int .i64 0,.int .i64 0,.bool false,.bool false,.bool false,.bool false,.bool false,.bool false,.int .i64 0,.int .i64 0,.int .i64 0,.bool false,.bool false,.bool false,.bool false,.bool false] 91)).setCells wr.heap.size 0 [.bool true,.int .i64 t0,.int .i64 p0,.int .i64 q0,.bool x0,.bool y0,.bool z0,.bool g0,.bool d0,.bool false,.int .i64 t1,.int .i64 p1,.int .i64 q1,.bool x1,.bool y1,.bool z1,.bool g1,.bool d1]=U0 at R O0 B0 |-
      go_step
      simp only [Exit.then]
      refine (‹∀ (a:Act) (w:World),Code.wp _ _ _ a w->_› _ _ ?_)
      go_step
      go_step
      refine load_pat wr.heap.size 0 [.bool true,.int .i64 t0,.int .i64 p0,.int .i64 q0,.bool x0,.bool y0,.bool z0,.bool g0,.bool d0,.bool false,.int .i64 t1,.int .i64 p1,.int .i64 q1,.bool x1,.bool y1,.bool z1,.bool g1,.bool d1] (.array 2 51) rfl R.out Tryz.underlying91 rfl set_info ?_
      simp only [Act.put,List.setIfInBounds_toArray,List.set_cons_zero,List.set_cons_succ]
      clear R
      go_wp2_with fail
      refine wp_loop_rounds 3 ?_
      rw [rounds_succ]
      have OW:Hid ((((U0.alloc (.cells #[.bool true,.int .i64 t0,.int .i64 p0,.int .i64 q0,.bool x0,.bool y0,.bool z0,.bool g0,.bool d0] 51)).alloc (.cells #[.bool true,.int .i64 t0,.int .i64 p0,.int .i64 q0,.bool x0,.bool y0,.bool z0,.bool g0,.bool d0] 51))).ownsRow w.heap.size 51 9 u3 ((linesT T (2*k)).length) ((linesT T (2*k)).flatMap Ln.enc)):=own_keep O0.out (Go.Joins.below_alloc2 _ _ _)
      have NW:Hid (∀ j x,([.bool true,.int .i64 t0,.int .i64 p0,.int .i64 q0,.bool x0,.bool y0,.bool z0,.bool g0,.bool d0]:List Value)[j]? =some x->((U0.alloc (.cells #[.bool true,.int .i64 t0,.int .i64 p0,.int .i64 q0,.bool x0,.bool y0,.bool z0,.bool g0,.bool d0] 51)).alloc (.cells #[.bool true,.int .i64 t0,.int .i64 p0,.int .i64 q0,.bool x0,.bool y0,.bool z0,.bool g0,.bool d0] 51)).cell? ((⟨U0.heap.size+1,0,none⟩:Addr).add j)=some x):=news_cells U0 _ #[.bool true,.int .i64 t0,.int .i64 p0,.int .i64 q0,.bool x0,.bool y0,.bool z0,.bool g0,.bool d0] 51
      have ON:Hid (∀ x∈([.bool true,.int .i64 t0,.int .i64 p0,.int .i64 q0,.bool x0,.bool y0,.bool z0,.bool g0,.bool d0]:List Value),x.oneCell'=true):=by show ∀ x∈([.bool true,.int .i64 t0,.int .i64 p0,.int .i64 q0,.bool x0,.bool y0,.bool z0,.bool g0,.bool d0]:List Value),x.oneCell'=true;simp [Value.oneCell']
      have HZ:Hid (w.heap.size<=((U0.alloc (.cells #[.bool true,.int .i64 t0,.int .i64 p0,.int .i64 q0,.bool x0,.bool y0,.bool z0,.bool g0,.bool d0] 51)).alloc (.cells #[.bool true,.int .i64 t0,.int .i64 p0,.int .i64 q0,.bool x0,.bool y0,.bool z0,.bool g0,.bool d0] 51)).heap.size):=by show _<=_;rw [World.size_alloc,World.size_alloc];have:=B0.out.size;omega
      have MX:Hid ((linesT T (2*k)).length+1<=maxLen):=by show _<=_;unfold maxLen;have:=LN.out;omega
      have BY:Hid (((linesT T (2*k)).length+1)*40<=140737488355328):=by show _<=_;have:=LN.out;omega
      go_wp2_with (at_builtin;refine wpList_append_own _ rfl _ _ 38 rfl w.heap.size 51 i0 zline 9 40 Tryz.underlying38 hi hz0 hz1 hz2 rfl (by decide) u3 ((linesT T (2*k)).length) ((linesT T (2*k)).flatMap Ln.enc) rfl OW.out ⟨U0.heap.size+1,0,none⟩ 1 1 ([.bool true,.int .i64 t0,.int .i64 p0,.int .i64 q0,.bool x0,.bool y0,.bool z0,.bool g0,.bool d0]:List Value) rfl rfl NW.out ON.out MX.out BY.out HZ.out ?_;intro v1 a0 hown hg hnil;have O1:Hid (a0.ownsRow w.heap.size 51 9 v1 ((linesT T (2*k)).length+1) (((linesT T (2*k)).flatMap Ln.enc)++[.bool true,.int .i64 t0,.int .i64 p0,.int .i64 q0,.bool x0,.bool y0,.bool z0,.bool g0,.bool d0])):=hown;have B1:Hid (Below w.heap.size w a0):=below_grown (base:=0) (B0.out.trans (Go.Joins.below_le (Go.Joins.below_alloc2 U0 _ _) B0.out.size)) OW.out hg;clear hown hg hnil OW NW ON HZ MX BY)
      go_wp2_with fail
      rw [rounds_succ]
      go_wp2_with fail
      have O2:Hid ((a0.alloc (.cells #[.bool false,.int .i64 t1,.int .i64 p1,.int .i64 q1,.bool x1,.bool y1,.bool z1,.bool g1,.bool d1] 51)).ownsRow w.heap.size 51 9 v1 ((linesT T (2*k)).length+1) (((linesT T (2*k)).flatMap Ln.enc)++[.bool true,.int .i64 t0,.int .i64 p0,.int .i64 q0,.bool x0,.bool y0,.bool z0,.bool g0,.bool d0])):=own_keep O1.out (Go.Joins.below_alloc1 _ _)
      have B2:Hid (Below w.heap.size w (a0.alloc (.cells #[.bool false,.int .i64 t1,.int .i64 p1,.int .i64 q1,.bool x1,.bool y1,.bool z1,.bool g1,.bool d1] 51))):=below_new B1.out _
      generalize a0.alloc (.cells #[.bool false,.int .i64 t1,.int .i64 p1,.int .i64 q1,.bool x1,.bool y1,.bool z1,.bool g1,.bool d1] 51)=a1 at O2 B2 |-
      have OF:Hid (a1.ownsRow w.heap.size 51 9 v1 (linesT T (2*(k+1))).length ((linesT T (2*(k+1))).flatMap Ln.enc)):=by
       have e:linesT T (2*(k+1))=linesT T (2*k)++[(⟨true,t0,p0,q0,x0,y0,z0,g0,d0⟩:Ln)]:=by
        rw [show 2*(k+1)=2*k+1+1 by omega,lines_no T (2*k+1) (by rw [H1.out]),lines_yes T (2*k) (by rw [H0.out]),H0.out]
       have:=O2.out
       show World.ownsRow _ _ _ _ _ _ _
       rw [e]
       try simp only [List.length_append,List.length_cons,List.length_nil,List.flatMap_append,List.flatMap_cons,List.flatMap_nil,List.append_nil] at this |-
       exact this
      rw [rounds_succ]
      go_wp2_with fail
      go_roundw
      case rel=>exact ⟨k+1,by omega,by go_num,OF,B2⟩
      case measure=>simp [intOf];omega
    . go_wp2_with fail
      rw [HK.out]
      simp only [Result.andThen_ok,Oper.upon]
      refine (‹∀ (a:Act) (w:World),wpList _ _ _ _ a w->_› _ _ ?_)
      refine Go.Great.wpList_allocTo rfl (some 5) rfl (.pointer (some ⟨wr.heap.size,0,none⟩)) (.cells #[.bool false,.int .i64 0,.int .i64 0,.int .i64 0,.bool false,.bool false,.bool false,.bool false,.bool false,.bool false,.int .i64 0,.int .i64 0,.int .i64 0,.bool false,.bool false,.bool false,.bool false,.bool false] 91) (by kernel_rfl) ?_
      simp only [Act.put,List.setIfInBounds_toArray,List.set_cons_zero,List.set_cons_succ]
      have TH:(wr.alloc (.cells #[.bool false,.int .i64 0,.int .i64 0,.int .i64 0,.bool false,.bool false,.bool false,.bool false,.bool false,.bool false,.int .i64 0,.int .i64 0,.int .i64 0,.bool false,.bool false,.bool false,.bool false,.bool false] 91)).there wr.heap.size 0 18:=there_block (own1 wr _)
      refine store_pat wr.heap.size 0 #[.bool true,.int .i64 t0,.int .i64 p0,.int .i64 q0,.bool x0,.bool y0,.bool z0,.bool g0,.bool d0,.bool true,.int .i64 t1,.int .i64 p1,.int .i64 q1,.bool x1,.bool y1,.bool z1,.bool g1,.bool d1] rfl rfl TH set_info (by simp [Value.oneCell']) ?_
      have R:Hid (((wr.alloc (.cells #[.bool false,.int .i64 0,.int .i64 0,.int .i64 0,.bool false,.bool false,.bool false,.bool false,.bool false,.bool false,.int .i64 0,.int .i64 0,.int .i64 0,.bool false,.bool false,.bool false,.bool false,.bool false] 91)).setCells wr.heap.size 0 [.bool true,.int .i64 t0,.int .i64 p0,.int .i64 q0,.bool x0,.bool y0,.bool z0,.bool g0,.bool d0,.bool true,.int .i64 t1,.int .i64 p1,.int .i64 q1,.bool x1,.bool y1,.bool z1,.bool g1,.bool d1]).rangeAt wr.heap.size 0 [.bool true,.int .i64 t0,.int .i64 p0,.int .i64 q0,.bool x0,.bool y0,.bool z0,.bool g0,.bool d0,.bool true,.int .i64 t1,.int .i64 p1,.int .i64 q1,.bool x1,.bool y1,.bool z1,.bool g1,.bool d1]):=World.rangeAt_setCells_same _ wr.heap.size 0 _ TH
      have BW:Below wr.heap.size wr ((wr.alloc (.cells #[.bool false,.int .i64 0,.int .i64 0,.int .i64 0,.bool false,.bool false,.bool false,.bool false,.bool false,.bool false,.int .i64 0,.int .i64 0,.int .i64 0,.bool false,.bool false,.bool false,.bool false,.bool false] 91)).setCells wr.heap.size 0 [.bool true,.int .i64 t0,.int .i64 p0,.int .i64 q0,.bool x0,.bool y0,.bool z0,.bool g0,.bool d0,.bool true,.int .i64 t1,.int .i64 p1,.int .i64 q1,.bool x1,.bool y1,.bool z1,.bool g1,.bool d1]):=below_setCells (Go.Joins.below_alloc1 wr _) _ _ _ (Nat.le_refl _)
      have O0:Hid (((wr.alloc (.cells #[.bool false,.int .i64 0,.int .i64 0,.int .i64 0,.bool false,.bool false,.bool false,.bool false,.bool false,.bool false,.int .i64 0,.int .i64 0,.int .i64 0,.bool false,.bool false,.bool false,.bool false,.bool false] 91)).setCells wr.heap.size 0 [.bool true,.int .i64 t0,.int .i64 p0,.int .i64 q0,.bool x0,.bool y0,.bool z0,.bool g0,.bool d0,.bool true,.int .i64 t1,.int .i64 p1,.int .i64 q1,.bool x1,.bool y1,.bool z1,.bool g1,.bool d1]).ownsRow w.heap.size 51 9 u3 (linesT T (2*k)).length ((linesT T (2*k)).flatMap Ln.enc)):=own_keep O.out BW
      have B0:Hid (Below w.heap.size w ((wr.alloc (.cells #[.bool false,.int .i64 0,.int .i64 0,.int .i64 0,.bool false,.bool false,.bool false,.bool false,.bool false,.bool false,.int .i64 0,.int .i64 0,.int .i64 0,.bool false,.bool false,.bool false,.bool false,.bool false] 91)).setCells wr.heap.size 0 [.bool true,.int .i64 t0,.int .i64 p0,.int .i64 q0,.bool x0,.bool y0,.bool z0,.bool g0,.bool d0,.bool true,.int .i64 t1,.int .i64 p1,.int .i64 q1,.bool x1,.bool y1,.bool z1,.bool g1,.bool d1])):=below_then B.out BW
      clear TH BW HK
      simp only [List.toList_toArray]
      generalize (wr.alloc (.cells #[.bool false,.int .i64 0,.int .i64 0,.int .i64 0,.bool false,.bool false,.bool false,.bool false,.bool false,.bool false,.int .i64 0,.int .i64 0,.int .i64 0,.bool false,.bool false,.bool false,.bool false,.bool false] 91)).setCells wr.heap.size 0 [.bool true,.int .i64 t0,.int .i64 p0,.int .i64 q0,.bool x0,.bool y0,.bool z0,.bool g0,.bool d0,.bool true,.int .i64 t1,.int .i64 p1,.int .i64 q1,.bool x1,.bool y1,.bool z1,.bool g1,.bool d1]=U0 at R O0 B0 |-
      go_step
      simp only [Exit.then]
      refine (‹∀ (a:Act) (w:World),Code.wp _ _ _ a w->_› _ _ ?_)
      go_step
      go_step
      refine load_pat wr.heap.size 0 [.bool true,.int .i64 t0,.int .i64 p0,.int .i64 q0,.bool x0,.bool y0,.bool z0,.bool g0,.bool d0,.bool true,.int .i64 t1,.int .i64 p1,.int .i64 q1,.bool x1,.bool y1,.bool z1,.bool g1,.bool d1] (.array 2 51) rfl R.out Tryz.underlying91 rfl set_info ?_
      simp only [Act.put,List.setIfInBounds_toArray,List.set_cons_zero,List.set_cons_succ]
      clear R
      go_wp2_with fail
      refine wp_loop_rounds 3 ?_
      rw [rounds_succ]
      have OW:Hid ((((U0.alloc (.cells #[.bool true,.int .i64 t0,.int .i64 p0,.int .i64 q0,.bool x0,.bool y0,.bool z0,.bool g0,.bool d0] 51)).alloc (.cells #[.bool true,.int .i64 t0,.int .i64 p0,.int .i64 q0,.bool x0,.bool y0,.bool z0,.bool g0,.bool d0] 51))).ownsRow w.heap.size 51 9 u3 ((linesT T (2*k)).length) ((linesT T (2*k)).flatMap Ln.enc)):=own_keep O0.out (Go.Joins.below_alloc2 _ _ _)
      have NW:Hid (∀ j x,([.bool true,.int .i64 t0,.int .i64 p0,.int .i64 q0,.bool x0,.bool y0,.bool z0,.bool g0,.bool d0]:List Value)[j]? =some x->((U0.alloc (.cells #[.bool true,.int .i64 t0,.int .i64 p0,.int .i64 q0,.bool x0,.bool y0,.bool z0,.bool g0,.bool d0] 51)).alloc (.cells #[.bool true,.int .i64 t0,.int .i64 p0,.int .i64 q0,.bool x0,.bool y0,.bool z0,.bool g0,.bool d0] 51)).cell? ((⟨U0.heap.size+1,0,none⟩:Addr).add j)=some x):=news_cells U0 _ #[.bool true,.int .i64 t0,.int .i64 p0,.int .i64 q0,.bool x0,.bool y0,.bool z0,.bool g0,.bool d0] 51
      have ON:Hid (∀ x∈([.bool true,.int .i64 t0,.int .i64 p0,.int .i64 q0,.bool x0,.bool y0,.bool z0,.bool g0,.bool d0]:List Value),x.oneCell'=true):=by show ∀ x∈([.bool true,.int .i64 t0,.int .i64 p0,.int .i64 q0,.bool x0,.bool y0,.bool z0,.bool g0,.bool d0]:List Value),x.oneCell'=true;simp [Value.oneCell']
      have HZ:Hid (w.heap.size<=((U0.alloc (.cells #[.bool true,.int .i64 t0,.int .i64 p0,.int .i64 q0,.bool x0,.bool y0,.bool z0,.bool g0,.bool d0] 51)).alloc (.cells #[.bool true,.int .i64 t0,.int .i64 p0,.int .i64 q0,.bool x0,.bool y0,.bool z0,.bool g0,.bool d0] 51)).heap.size):=by show _<=_;rw [World.size_alloc,World.size_alloc];have:=B0.out.size;omega
      have MX:Hid ((linesT T (2*k)).length+1<=maxLen):=by show _<=_;unfold maxLen;have:=LN.out;omega
      have BY:Hid (((linesT T (2*k)).length+1)*40<=140737488355328):=by show _<=_;have:=LN.out;omega
      go_wp2_with (at_builtin;refine wpList_append_own _ rfl _ _ 38 rfl w.heap.size 51 i0 zline 9 40 Tryz.underlying38 hi hz0 hz1 hz2 rfl (by decide) u3 ((linesT T (2*k)).length) ((linesT T (2*k)).flatMap Ln.enc) rfl OW.out ⟨U0.heap.size+1,0,none⟩ 1 1 ([.bool true,.int .i64 t0,.int .i64 p0,.int .i64 q0,.bool x0,.bool y0,.bool z0,.bool g0,.bool d0]:List Value) rfl rfl NW.out ON.out MX.out BY.out HZ.out ?_;intro v1 a0 hown hg hnil;have O1:Hid (a0.ownsRow w.heap.size 51 9 v1 ((linesT T (2*k)).length+1) (((linesT T (2*k)).flatMap Ln.enc)++[.bool true,.int .i64 t0,.int .i64 p0,.int .i64 q0,.bool x0,.bool y0,.bool z0,.bool g0,.bool d0])):=hown;have B1:Hid (Below w.heap.size w a0):=below_grown (base:=0) (B0.out.trans (Go.Joins.below_le (Go.Joins.below_alloc2 U0 _ _) B0.out.size)) OW.out hg;clear hown hg hnil OW NW ON HZ MX BY)
      go_wp2_with fail
      rw [rounds_succ]
      have OW:Hid ((((a0.alloc (.cells #[.bool true,.int .i64 t1,.int .i64 p1,.int .i64 q1,.bool x1,.bool y1,.bool z1,.bool g1,.bool d1] 51)).alloc (.cells #[.bool true,.int .i64 t1,.int .i64 p1,.int .i64 q1,.bool x1,.bool y1,.bool z1,.bool g1,.bool d1] 51))).ownsRow w.heap.size 51 9 v1 ((linesT T (2*k)).length+1) (((linesT T (2*k)).flatMap Ln.enc)++[.bool true,.int .i64 t0,.int .i64 p0,.int .i64 q0,.bool x0,.bool y0,.bool z0,.bool g0,.bool d0])):=own_keep O1.out (Go.Joins.below_alloc2 _ _ _)
      have NW:Hid (∀ j x,([.bool true,.int .i64 t1,.int .i64 p1,.int .i64 q1,.bool x1,.bool y1,.bool z1,.bool g1,.bool d1]:List Value)[j]? =some x->((a0.alloc (.cells #[.bool true,.int .i64 t1,.int .i64 p1,.int .i64 q1,.bool x1,.bool y1,.bool z1,.bool g1,.bool d1] 51)).alloc (.cells #[.bool true,.int .i64 t1,.int .i64 p1,.int .i64 q1,.bool x1,.bool y1,.bool z1,.bool g1,.bool d1] 51)).cell? ((⟨a0.heap.size+1,0,none⟩:Addr).add j)=some x):=news_cells a0 _ #[.bool true,.int .i64 t1,.int .i64 p1,.int .i64 q1,.bool x1,.bool y1,.bool z1,.bool g1,.bool d1] 51
      have ON:Hid (∀ x∈([.bool true,.int .i64 t1,.int .i64 p1,.int .i64 q1,.bool x1,.bool y1,.bool z1,.bool g1,.bool d1]:List Value),x.oneCell'=true):=by show ∀ x∈([.bool true,.int .i64 t1,.int .i64 p1,.int .i64 q1,.bool x1,.bool y1,.bool z1,.bool g1,.bool d1]:List Value),x.oneCell'=true;simp [Value.oneCell']
      have HZ:Hid (w.heap.size<=((a0.alloc (.cells #[.bool true,.int .i64 t1,.int .i64 p1,.int .i64 q1,.bool x1,.bool y1,.bool z1,.bool g1,.bool d1] 51)).alloc (.cells #[.bool true,.int .i64 t1,.int .i64 p1,.int .i64 q1,.bool x1,.bool y1,.bool z1,.bool g1,.bool d1] 51)).heap.size):=by show _<=_;rw [World.size_alloc,World.size_alloc];have:=B1.out.size;omega
      have MX:Hid ((linesT T (2*k)).length+1+1<=maxLen):=by show _<=_;unfold maxLen;have:=LN.out;omega
      have BY:Hid (((linesT T (2*k)).length+1+1)*40<=140737488355328):=by show _<=_;have:=LN.out;omega
      go_wp2_with (at_builtin;refine wpList_append_own _ rfl _ _ 38 rfl w.heap.size 51 i0 zline 9 40 Tryz.underlying38 hi hz0 hz1 hz2 rfl (by decide) v1 ((linesT T (2*k)).length+1) (((linesT T (2*k)).flatMap Ln.enc)++[.bool true,.int .i64 t0,.int .i64 p0,.int .i64 q0,.bool x0,.bool y0,.bool z0,.bool g0,.bool d0]) rfl OW.out ⟨a0.heap.size+1,0,none⟩ 1 1 ([.bool true,.int .i64 t1,.int .i64 p1,.int .i64 q1,.bool x1,.bool y1,.bool z1,.bool g1,.bool d1]:List Value) rfl rfl NW.out ON.out MX.out BY.out HZ.out ?_;intro v2 a1 hown hg hnil;have O2:Hid (a1.ownsRow w.heap.size 51 9 v2 ((linesT T (2*k)).length+1+1) ((((linesT T (2*k)).flatMap Ln.enc)++[.bool true,.int .i64 t0,.int .i64 p0,.int .i64 q0,.bool x0,.bool y0,.bool z0,.bool g0,.bool d0])++[.bool true,.int .i64 t1,.int .i64 p1,.int .i64 q1,.bool x1,.bool y1,.bool z1,.bool g1,.bool d1])):=hown;have B2:Hid (Below w.heap.size w a1):=below_grown (base:=0) (B1.out.trans (Go.Joins.below_le (Go.Joins.below_alloc2 a0 _ _) B1.out.size)) OW.out hg;clear hown hg hnil OW NW ON HZ MX BY)
      go_wp2_with fail
      have OF:Hid (a1.ownsRow w.heap.size 51 9 v2 (linesT T (2*(k+1))).length ((linesT T (2*(k+1))).flatMap Ln.enc)):=by
       have e:linesT T (2*(k+1))=linesT T (2*k)++[(⟨true,t0,p0,q0,x0,y0,z0,g0,d0⟩:Ln)]++[(⟨true,t1,p1,q1,x1,y1,z1,g1,d1⟩:Ln)]:=by
        rw [show 2*(k+1)=2*k+1+1 by omega,lines_yes T (2*k+1) (by rw [H1.out]),lines_yes T (2*k) (by rw [H0.out]),H0.out,H1.out]
       have:=O2.out
       show World.ownsRow _ _ _ _ _ _ _
       rw [e]
       try simp only [List.length_append,List.length_cons,List.length_nil,List.flatMap_append,List.flatMap_cons,List.flatMap_nil,List.append_nil] at this |-
       exact this
      rw [rounds_succ]
      go_wp2_with fail
      go_roundw
      case rel=>exact ⟨k+1,by omega,by go_num,OF,B2⟩
      case measure=>simp [intOf];omega
  . obtain rfl:k=8:=by omega
    go_wp2_with fail
    go_ret
    exact ⟨_,rfl,O.out,B.out⟩
end Go.Proofs.YthmobfelhpbllaaGreatDoor.Tl
namespace Go.Proofs.YthmobfelhpbllaaGreatDoor.Tl
open Go.ChangeShapes Go.WideShapes Go.ChangeAt Go.RowKit Go.Maps
set_option linter.unusedSimpArgs false
set_option linter.unusedVariables false
set_option maxRecDepth 8000
def T0:Nat->Ln:=fun _=>Ln.zero
theorem flat_get (T:Nat->Ln) (q r:Nat) (q16:q<16) (r9:r<9):(flatT T)[q*9+r]? =(T q).enc[r]? :=by
 rcases (show q=0\/q=1\/q=2\/q=3\/q=4\/q=5\/q=6\/q=7\/q=8\/q=9\/q=10\/q=11\/q=12\/q=13\/q=14\/q=15 by omega) with rfl | rfl | rfl | rfl | rfl | rfl | rfl | rfl | rfl | rfl | rfl | rfl | rfl | rfl | rfl | rfl <;> rcases (show r=0\/r=1\/r=2\/r=3\/r=4\/r=5\/r=6\/r=7\/r=8 by omega) with rfl | rfl | rfl | rfl | rfl | rfl | rfl | rfl | rfl <;> rfl
theorem zero30: ∃ Zs:Array Value,(∀ W:World,(zeroValue 94).run Tryz.prog W=.ok (.agg Zs) W)/\Zs.size=144/\ ∀ q r,q<16->r<9->Zs[q*9+r]? =Ln.zero.enc[r]? :=
 ⟨(flatT T0).toArray,fun W=>by kernel_rfl,rfl,fun q r h1 h2=>by rw [List.getElem?_toArray];exact flat_get T0 q r h1 h2⟩
theorem IsTlb.made (w:World) (Zs:Array Value) (hs:Zs.size=144) (hz: ∀ q r,q<16->r<9->Zs[q*9+r]? =Ln.zero.enc[r]?):IsTlb (w.alloc (.cells Zs 94)) w.heap.size T0:=by
 refine ⟨fun i hi j v hv=> ?_,?_,by simp⟩
 . have hj:j<9:=(List.getElem?_eq_some_iff.1 hv).1
   exact (Go.Joins.cell_of_block (own1 w _) _).trans ((hz i j hi hj).trans hv)
 . have:=there_block (own1 w (.cells Zs 94))
   rwa [hs] at this
def Own (w W:World) (b:Nat) (T:Nat->Ln):Prop:=IsTlb W b T/\Below w.heap.size w W/\w.heap.size<=b
def l9:Ln:=⟨true,1,9,5,false,false,false,false,false⟩
theorem own_len {w:World} {base n e s:Nat} {v:Value} {xs:List Value} (h:w.ownsRow base e s v n xs): ∃ p c,v=.slice p n c:=by
 obtain ⟨h1,h2 | ⟨g',cap',cur,e1,e2,e3,e4⟩⟩:=h
 . exact ⟨none,0,by rw [h2.1,h2.2]⟩
 . exact ⟨_,cap',e1⟩
end Go.Proofs.YthmobfelhpbllaaGreatDoor.Tl
