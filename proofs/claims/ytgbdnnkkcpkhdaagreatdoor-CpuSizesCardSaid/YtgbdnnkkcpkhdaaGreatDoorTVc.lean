import Derived.Test.YtgbdnnkkcpkhdaaGreatDoorTUc
import Derived.MapKept
import Derived.Laws.Tables
import Derived.Test.YtgbdnnkkcpkhdaaGreatDoorKZc
import Derived.OwnWalk
import Derived.Laws.AppendOwn
import Derived.Great.Walk
set_option linter.unusedSimpArgs false
set_option linter.unusedVariables false
set_option maxRecDepth 8000
set_option maxHeartbeats 1000000
open Go.ChangeShapes Go.WideShapes Go.ChangeAt Go.RowKit Go.Maps
namespace Go.Proofs.YtgbdnnkkcpkhdaaGreatDoor.Tl
theorem load_pat {P:Program} {ops:Array Oper} {rest:List Oper} {ty t:TypeId} {x:Operand} {q:Tmp} {pos:String} {af:Array Edge} {a:Act} {w:World} {Q:Exit->Act->World->Prop} (b o:Nat) (cs:List Value) (d:TypeDesc) (hx:a.eval x=.pointer (some ⟨b,o,none⟩)) (hc:w.rangeAt b o cs)
 (hu:P.underlying ty=some d) (hd:d.isRow=true) (hi:(P.info? ty).map (·.size)=some cs.length)
 (h:wpList P ops Q rest (a.put (some q) (.agg cs.toArray)) w):wpList P ops Q ({ dst:=some q,op:=.load ty x,type:=t,pos:=pos,after:=af,guard:=none }::rest) a w :=
 wpList_load_mid rfl ty x rfl b o hx cs d hc hu hd hi h
theorem set_info:(Tryz.prog.info? 128).map (·.size)=some 18:=ka
theorem set_range {w:World} {b:Nat} {T:Nat->Ln} (h:IsTlb w b T) (s:Nat) (hs:s<8) (l0 l1:Ln) (h0:T (2*s)=l0) (h1:T (2*s+1)=l1):w.rangeAt b (s*18) (sa1 l0.v l0.t l0.p l0.f l0.w l0.u l0.x l0.g l0.d l1.v l1.t l1.p l1.f l1.w l1.u l1.x l1.g l1.d):=by
 intro j v hv
 have a0:=h.1 (2*s) (by omega)
 have a1:=h.1 (2*s+1) (by omega)
 rw [h0] at a0
 rw [h1] at a1
 by_cases c:j<9
 . have:=a0 j v (by rw [<- hv];match j,c with
    | 0, _ => rfl
    | 1, _ => rfl
    | 2, _ => rfl
    | 3, _ => rfl
    | 4, _ => rfl
    | 5, _ => rfl
    | 6, _ => rfl
    | 7, _ => rfl
    | 8, _ => rfl)
   rw [show s*18+j=2*s*9+j by omega];exact this
 . obtain ⟨i,rfl⟩: ∃ i,j=9+i:=⟨j-9,by omega⟩
   have hi:i<9:=by
    have:=(List.getElem?_eq_some_iff.1 hv).1
    simp at this;omega
   have:=a1 i v (by rw [<- hv];match i,hi with
    | 0, _ => rfl
    | 1, _ => rfl
    | 2, _ => rfl
    | 3, _ => rfl
    | 4, _ => rfl
    | 5, _ => rfl
    | 6, _ => rfl
    | 7, _ => rfl
    | 8, _ => rfl)
   rw [show s*18+(9+i)=(2*s+1)*9+i by omega];exact this
theorem own1 (w:World) (o:Obj):(w.alloc o).heap[w.heap.size]? =some o:=(MapKept.heap_alloc w o).1
theorem own2a (w:World) (o p:Obj):((w.alloc o).alloc p).heap[w.heap.size]? =some o:=((Go.Joins.below_alloc1 (w.alloc o) p).block _ ke).trans (own1 w o)
theorem own2b (w:World) (o p:Obj):((w.alloc o).alloc p).heap[w.heap.size+1]? =some p:=by
 have:=own1 (w.alloc o) p
 rw [World.size_alloc] at this;exact this
theorem there_block {w:World} {b:Nat} {C:Array Value} {t:TypeId} (h:w.heap[b]? =some (.cells C t (0,0))):w.there b 0 C.size:=fun j hj=>by
 rw [Nat.zero_add]
 exact ⟨by rw [Go.Joins.cell_of_block h j,Array.getElem?_eq_getElem hj];rfl,Go.Joins.unfrozen_of_block h j⟩
theorem below_setCells {w x:World} (h:bc w x) (b o:Nat) (vs:List Value) (hb:w.heap.size<=b):bc w (x.setCells b o vs):=by
 have g:=grown_setCells b vs o x
 exact h.trans ⟨g.os,g.tape,g.output,g.size,fun k hk=>g.block k (nla hk h.size) (fun e=>by have:=sia e;omega)⟩
def findT (T:Nat->Ln) (tag page:Int):Ln × Bool :=
 if page<0 then (Ln.zero,false) else if (T (2*(page % 8).toNat)).fits tag page then (T (2*(page % 8).toNat),true) else if (T (2*(page % 8).toNat+1)).fits tag page then (T (2*(page % 8).toNat+1),true) else (Ln.zero,false)
theorem ix0 (a0 a1 a2 a3 a4 a5 a6 a7 a8 a9 a10 a11 a12 a13 a14 a15 a16 a17:Value) (W:World):(Instr.index 128 (.agg #[a0,a1,a2,a3,a4,a5,a6,a7,a8,a9,a10,a11,a12,a13,a14,a15,a16,a17]) (.int .i64 0)).run Tryz.prog W=.ok (.agg #[a0,a1,a2,a3,a4,a5,a6,a7,a8]) W:=ka
theorem ix1 (a0 a1 a2 a3 a4 a5 a6 a7 a8 a9 a10 a11 a12 a13 a14 a15 a16 a17:Value) (W:World):(Instr.index 128 (.agg #[a0,a1,a2,a3,a4,a5,a6,a7,a8,a9,a10,a11,a12,a13,a14,a15,a16,a17]) (.int .i64 1)).run Tryz.prog W=.ok (.agg #[a9,a10,a11,a12,a13,a14,a15,a16,a17]) W:=ka
theorem results_pair {fn:Func} {p q:Tmp} {t:TypeId} (h:fn.results= #[.cell p t,.tmp q]) (tmps:Array Value) (P:Program) (w:World) (a:Addr) (x y:Value)
 (ha:tmps.getD p undef=.pointer (some a)) (hb:tmps.getD q undef=y) (hx:(loadVar t a).run P w=.ok x w) :
 (results fn tmps).run P w=.ok (.tuple #[x,y]) w:=by
 simp only [results,h]
 have e1: ∀ W:World,(asAddr (Value.pointer (some a))).run P W=.ok a W:=fun _=>rfl
 simp at ha hb
 simp [Sem.run_bind,Result.andThen,ha,hb,e1,hx]
theorem ln_one (l:Ln):((sy l.v l.t l.p l.f l.w l.u l.x l.g l.d):Array Value).all (fun x=>x.oneCell')=true:=kr
theorem find_neg (b:Nat) (tag page:Int) (hp:page<0) (w:World) :
 Calls Tryz.prog 32 (sf (.pointer (some ⟨b,0,none⟩)) tag page) w (re (.tuple #[Ln.zero.val,.bool false]) w):=by
 go_enter Tryz.func32,Tryz.ntmps32
 go_wp2_with fail
 go_returns
 exact ⟨rfl,baa⟩
theorem find_a (b:Nat) (T:Nat->Ln) (tag page:Int) (s:Nat) (l0 l1:Ln) (hp:0<=page) (hs:page % 8=(s:Int)) (h0:T (2*s)=l0) (h1:T (2*s+1)=l1) (f0:l0.fits tag page=true)  (w:World) (h:IsTlb w b T) :
 Calls Tryz.prog 32 (sf (.pointer (some ⟨b,0,none⟩)) tag page) w (re (.tuple #[l0.val,.bool true]) w):=by
 have hs8:s<8:=by omega
 have RG:Hid (w.rangeAt b (s*18) (sa1 l0.v l0.t l0.p l0.f l0.w l0.u l0.x l0.g l0.d l1.v l1.t l1.p l1.f l1.w l1.u l1.x l1.g l1.d)):=set_range h s hs8 l0 l1 h0 h1
 have hb:=h.2.2
 have I0:=ix0
 have I1:=ix1
 have FA:Hid (∀ w:World,Calls Tryz.prog 58 #[.agg (sy l0.v l0.t l0.p l0.f l0.w l0.u l0.x l0.g l0.d),.int .i64 tag,.int .i64 page] w (re (.bool true) w)):=fun w=>by rw [<- f0];exact fits_any l0 tag page w
 clear h h0 h1 f0
 have k0:(0:Int)<=(s:Int):=by omega
 have k8:(s:Int)<8:=by omega
 have HS:Hid (page % 8=(s:Int)):=hs
 go_enter Tryz.func32,Tryz.ntmps32
 go_wp2_with (refine load_pat b (s*18) (sa1 l0.v l0.t l0.p l0.f l0.w l0.u l0.x l0.g l0.d l1.v l1.t l1.p l1.f l1.w l1.u l1.x l1.g l1.d) (.array 2 107) ?hx ?hc ?hu ?hd ?hi ?rest;(case hx=>rfl);(case hc=>exact World.rangeAt_alloc RG.out _);(case hu=>exact Tryz.underlying128);(case hd=>rfl);(case hi=>exact set_info))
 refine wp_loop_rounds 3 ?_
 rw [rounds_succ]
 go_wp2_with fail
 refine (FA.out _).mono ?_
 rintro e u1 ⟨rfl,hb1⟩
 have B1:Hid (bc w u1):=below_then (Go.Joins.below_alloc2 _ _ _) hb1
 have R1:Hid (u1.heap[w.heap.size]? =some (.cells sl1 107 (0,0))):=(hb1.block _ kh).trans (own2a w _ _)
 have L1:Hid (u1.heap[w.heap.size+1]? =some (.cells (sy l0.v l0.t l0.p l0.f l0.w l0.u l0.x l0.g l0.d) 107 (0,0))):=(hb1.block _ (by simp)).trans (own2b w _ _)
 have TH1:Hid (u1.there w.heap.size 0 9):=there_block R1.out
 clear hb1
 have c0:u1.cell? ⟨w.heap.size+1,0,none⟩=some (.bool l0.v):=Go.Joins.cell_of_block L1.out 0
 have c1:u1.cell? ⟨w.heap.size+1,1,none⟩=some (.int .i64 l0.t):=Go.Joins.cell_of_block L1.out 1
 have c2:u1.cell? ⟨w.heap.size+1,2,none⟩=some (.int .i64 l0.p):=Go.Joins.cell_of_block L1.out 2
 have c3:u1.cell? ⟨w.heap.size+1,3,none⟩=some (.int .i64 l0.f):=Go.Joins.cell_of_block L1.out 3
 have c4:u1.cell? ⟨w.heap.size+1,4,none⟩=some (.bool l0.w):=Go.Joins.cell_of_block L1.out 4
 have c5:u1.cell? ⟨w.heap.size+1,5,none⟩=some (.bool l0.u):=Go.Joins.cell_of_block L1.out 5
 have c6:u1.cell? ⟨w.heap.size+1,6,none⟩=some (.bool l0.x):=Go.Joins.cell_of_block L1.out 6
 have c7:u1.cell? ⟨w.heap.size+1,7,none⟩=some (.bool l0.g):=Go.Joins.cell_of_block L1.out 7
 have c8:u1.cell? ⟨w.heap.size+1,8,none⟩=some (.bool l0.d):=Go.Joins.cell_of_block L1.out 8
 have r0:u1.cell? ⟨w.heap.size,0,none⟩=some (.bool false):=Go.Joins.cell_of_block R1.out 0
 have z0:u1.frozen? ⟨w.heap.size,0,none⟩=false:=Go.Joins.unfrozen_of_block R1.out 0
 have r1:u1.cell? ⟨w.heap.size,1,none⟩=some (.int .i64 0):=Go.Joins.cell_of_block R1.out 1
 have z1:u1.frozen? ⟨w.heap.size,1,none⟩=false:=Go.Joins.unfrozen_of_block R1.out 1
 have r2:u1.cell? ⟨w.heap.size,2,none⟩=some (.int .i64 0):=Go.Joins.cell_of_block R1.out 2
 have z2:u1.frozen? ⟨w.heap.size,2,none⟩=false:=Go.Joins.unfrozen_of_block R1.out 2
 have r3:u1.cell? ⟨w.heap.size,3,none⟩=some (.int .i64 0):=Go.Joins.cell_of_block R1.out 3
 have z3:u1.frozen? ⟨w.heap.size,3,none⟩=false:=Go.Joins.unfrozen_of_block R1.out 3
 have r4:u1.cell? ⟨w.heap.size,4,none⟩=some (.bool false):=Go.Joins.cell_of_block R1.out 4
 have z4:u1.frozen? ⟨w.heap.size,4,none⟩=false:=Go.Joins.unfrozen_of_block R1.out 4
 have r5:u1.cell? ⟨w.heap.size,5,none⟩=some (.bool false):=Go.Joins.cell_of_block R1.out 5
 have z5:u1.frozen? ⟨w.heap.size,5,none⟩=false:=Go.Joins.unfrozen_of_block R1.out 5
 have r6:u1.cell? ⟨w.heap.size,6,none⟩=some (.bool false):=Go.Joins.cell_of_block R1.out 6
 have z6:u1.frozen? ⟨w.heap.size,6,none⟩=false:=Go.Joins.unfrozen_of_block R1.out 6
 have r7:u1.cell? ⟨w.heap.size,7,none⟩=some (.bool false):=Go.Joins.cell_of_block R1.out 7
 have z7:u1.frozen? ⟨w.heap.size,7,none⟩=false:=Go.Joins.unfrozen_of_block R1.out 7
 have r8:u1.cell? ⟨w.heap.size,8,none⟩=some (.bool false):=Go.Joins.cell_of_block R1.out 8
 have z8:u1.frozen? ⟨w.heap.size,8,none⟩=false:=Go.Joins.unfrozen_of_block R1.out 8
 go_wp2_with fail
 change bodyPost _ _ _ _ _ (u1.setCells w.heap.size 0 (sx l0.v l0.t l0.p l0.f l0.w l0.u l0.x l0.g l0.d))
 have hr:=run_loadVar_mid (P:=Tryz.prog) (u1.setCells w.heap.size 0 (sx l0.v l0.t l0.p l0.f l0.w l0.u l0.x l0.g l0.d)) w.heap.size 0 107 (sx l0.v l0.t l0.p l0.f l0.w l0.u l0.x l0.g l0.d) _ (World.rangeAt_setCells_same u1 w.heap.size 0 (sx l0.v l0.t l0.p l0.f l0.w l0.u l0.x l0.g l0.d) TH1.out) Tryz.underlying107 rfl line_info
 refine bodyPost_ret (v:=.tuple #[.agg (sy l0.v l0.t l0.p l0.f l0.w l0.u l0.x l0.g l0.d),.bool true]) ?_ rfl ⟨rfl,below_setCells B1.out _ _ _ (Nat.le_refl _)⟩
 exact results_pair Tryz.results32 _ _ _ _ _ _ rfl rfl hr
theorem find_b (b:Nat) (T:Nat->Ln) (tag page:Int) (s:Nat) (l0 l1:Ln) (hp:0<=page) (hs:page % 8=(s:Int)) (h0:T (2*s)=l0) (h1:T (2*s+1)=l1) (f0:l0.fits tag page=false) (f1:l1.fits tag page=true) (w:World) (h:IsTlb w b T) :
 Calls Tryz.prog 32 (sf (.pointer (some ⟨b,0,none⟩)) tag page) w (re (.tuple #[l1.val,.bool true]) w):=by
 have hs8:s<8:=by omega
 have RG:Hid (w.rangeAt b (s*18) (sa1 l0.v l0.t l0.p l0.f l0.w l0.u l0.x l0.g l0.d l1.v l1.t l1.p l1.f l1.w l1.u l1.x l1.g l1.d)):=set_range h s hs8 l0 l1 h0 h1
 have hb:=h.2.2
 have I0:=ix0
 have I1:=ix1
 have FA:Hid (∀ w:World,Calls Tryz.prog 58 #[.agg (sy l0.v l0.t l0.p l0.f l0.w l0.u l0.x l0.g l0.d),.int .i64 tag,.int .i64 page] w (re (.bool false) w)):=fun w=>by rw [<- f0];exact fits_any l0 tag page w
 have FB:Hid (∀ w:World,Calls Tryz.prog 58 #[.agg (sy l1.v l1.t l1.p l1.f l1.w l1.u l1.x l1.g l1.d),.int .i64 tag,.int .i64 page] w (re (.bool true) w)):=fun w=>by rw [<- f1];exact fits_any l1 tag page w
 clear h h0 h1 f0 f1
 have k0:(0:Int)<=(s:Int):=by omega
 have k8:(s:Int)<8:=by omega
 have HS:Hid (page % 8=(s:Int)):=hs
 go_enter Tryz.func32,Tryz.ntmps32
 go_wp2_with (refine load_pat b (s*18) (sa1 l0.v l0.t l0.p l0.f l0.w l0.u l0.x l0.g l0.d l1.v l1.t l1.p l1.f l1.w l1.u l1.x l1.g l1.d) (.array 2 107) ?hx ?hc ?hu ?hd ?hi ?rest;(case hx=>rfl);(case hc=>exact World.rangeAt_alloc RG.out _);(case hu=>exact Tryz.underlying128);(case hd=>rfl);(case hi=>exact set_info))
 refine wp_loop_rounds 3 ?_
 rw [rounds_succ]
 go_wp2_with fail
 refine (FA.out _).mono ?_
 rintro e u1 ⟨rfl,hb1⟩
 have B1:Hid (bc w u1):=below_then (Go.Joins.below_alloc2 _ _ _) hb1
 have R1:Hid (u1.heap[w.heap.size]? =some (.cells sl1 107 (0,0))):=(hb1.block _ kh).trans (own2a w _ _)
 have L1:Hid (u1.heap[w.heap.size+1]? =some (.cells (sy l0.v l0.t l0.p l0.f l0.w l0.u l0.x l0.g l0.d) 107 (0,0))):=(hb1.block _ (by simp)).trans (own2b w _ _)
 have TH1:Hid (u1.there w.heap.size 0 9):=there_block R1.out
 clear hb1
 go_wp2_with fail
 rw [rounds_succ]
 go_wp2_with fail
 refine (FB.out _).mono ?_
 rintro e u2 ⟨rfl,hb2⟩
 have B2:Hid (bc w u2):=below_then (below_new B1.out _) hb2
 have R2:Hid (u2.heap[w.heap.size]? =some (.cells sl1 107 (0,0))):=(hb2.block _ (by have:=(Array.getElem?_eq_some_iff.1 R1.out).1;simp;omega)).trans (((Go.Joins.below_alloc1 u1 _).block _ (Array.getElem?_eq_some_iff.1 R1.out).1).trans R1.out)
 have L2:Hid (u2.heap[u1.heap.size]? =some (.cells (sy l1.v l1.t l1.p l1.f l1.w l1.u l1.x l1.g l1.d) 107 (0,0))):=(hb2.block _ (by simp)).trans (own1 u1 _)
 have TH2:Hid (u2.there w.heap.size 0 9):=there_block R2.out
 clear hb2 R1 L1 B1 TH1
 have c0:u2.cell? ⟨u1.heap.size,0,none⟩=some (.bool l1.v):=Go.Joins.cell_of_block L2.out 0
 have c1:u2.cell? ⟨u1.heap.size,1,none⟩=some (.int .i64 l1.t):=Go.Joins.cell_of_block L2.out 1
 have c2:u2.cell? ⟨u1.heap.size,2,none⟩=some (.int .i64 l1.p):=Go.Joins.cell_of_block L2.out 2
 have c3:u2.cell? ⟨u1.heap.size,3,none⟩=some (.int .i64 l1.f):=Go.Joins.cell_of_block L2.out 3
 have c4:u2.cell? ⟨u1.heap.size,4,none⟩=some (.bool l1.w):=Go.Joins.cell_of_block L2.out 4
 have c5:u2.cell? ⟨u1.heap.size,5,none⟩=some (.bool l1.u):=Go.Joins.cell_of_block L2.out 5
 have c6:u2.cell? ⟨u1.heap.size,6,none⟩=some (.bool l1.x):=Go.Joins.cell_of_block L2.out 6
 have c7:u2.cell? ⟨u1.heap.size,7,none⟩=some (.bool l1.g):=Go.Joins.cell_of_block L2.out 7
 have c8:u2.cell? ⟨u1.heap.size,8,none⟩=some (.bool l1.d):=Go.Joins.cell_of_block L2.out 8
 have r0:u2.cell? ⟨w.heap.size,0,none⟩=some (.bool false):=Go.Joins.cell_of_block R2.out 0
 have z0:u2.frozen? ⟨w.heap.size,0,none⟩=false:=Go.Joins.unfrozen_of_block R2.out 0
 have r1:u2.cell? ⟨w.heap.size,1,none⟩=some (.int .i64 0):=Go.Joins.cell_of_block R2.out 1
 have z1:u2.frozen? ⟨w.heap.size,1,none⟩=false:=Go.Joins.unfrozen_of_block R2.out 1
 have r2:u2.cell? ⟨w.heap.size,2,none⟩=some (.int .i64 0):=Go.Joins.cell_of_block R2.out 2
 have z2:u2.frozen? ⟨w.heap.size,2,none⟩=false:=Go.Joins.unfrozen_of_block R2.out 2
 have r3:u2.cell? ⟨w.heap.size,3,none⟩=some (.int .i64 0):=Go.Joins.cell_of_block R2.out 3
 have z3:u2.frozen? ⟨w.heap.size,3,none⟩=false:=Go.Joins.unfrozen_of_block R2.out 3
 have r4:u2.cell? ⟨w.heap.size,4,none⟩=some (.bool false):=Go.Joins.cell_of_block R2.out 4
 have z4:u2.frozen? ⟨w.heap.size,4,none⟩=false:=Go.Joins.unfrozen_of_block R2.out 4
 have r5:u2.cell? ⟨w.heap.size,5,none⟩=some (.bool false):=Go.Joins.cell_of_block R2.out 5
 have z5:u2.frozen? ⟨w.heap.size,5,none⟩=false:=Go.Joins.unfrozen_of_block R2.out 5
 have r6:u2.cell? ⟨w.heap.size,6,none⟩=some (.bool false):=Go.Joins.cell_of_block R2.out 6
 have z6:u2.frozen? ⟨w.heap.size,6,none⟩=false:=Go.Joins.unfrozen_of_block R2.out 6
 have r7:u2.cell? ⟨w.heap.size,7,none⟩=some (.bool false):=Go.Joins.cell_of_block R2.out 7
 have z7:u2.frozen? ⟨w.heap.size,7,none⟩=false:=Go.Joins.unfrozen_of_block R2.out 7
 have r8:u2.cell? ⟨w.heap.size,8,none⟩=some (.bool false):=Go.Joins.cell_of_block R2.out 8
 have z8:u2.frozen? ⟨w.heap.size,8,none⟩=false:=Go.Joins.unfrozen_of_block R2.out 8
 go_wp2_with fail
 change bodyPost _ _ _ _ _ (u2.setCells w.heap.size 0 (sx l1.v l1.t l1.p l1.f l1.w l1.u l1.x l1.g l1.d))
 have hr:=run_loadVar_mid (P:=Tryz.prog) (u2.setCells w.heap.size 0 (sx l1.v l1.t l1.p l1.f l1.w l1.u l1.x l1.g l1.d)) w.heap.size 0 107 (sx l1.v l1.t l1.p l1.f l1.w l1.u l1.x l1.g l1.d) _ (World.rangeAt_setCells_same u2 w.heap.size 0 (sx l1.v l1.t l1.p l1.f l1.w l1.u l1.x l1.g l1.d) TH2.out) Tryz.underlying107 rfl line_info
 refine bodyPost_ret (v:=.tuple #[.agg (sy l1.v l1.t l1.p l1.f l1.w l1.u l1.x l1.g l1.d),.bool true]) ?_ rfl ⟨rfl,below_setCells B2.out _ _ _ (Nat.le_refl _)⟩
 exact results_pair Tryz.results32 _ _ _ _ _ _ rfl rfl hr
theorem find_c (b:Nat) (T:Nat->Ln) (tag page:Int) (s:Nat) (l0 l1:Ln) (hp:0<=page) (hs:page % 8=(s:Int)) (h0:T (2*s)=l0) (h1:T (2*s+1)=l1) (f0:l0.fits tag page=false) (f1:l1.fits tag page=false) (w:World) (h:IsTlb w b T) :
 Calls Tryz.prog 32 (sf (.pointer (some ⟨b,0,none⟩)) tag page) w (re (.tuple #[Ln.zero.val,.bool false]) w):=by
 have hs8:s<8:=by omega
 have RG:Hid (w.rangeAt b (s*18) (sa1 l0.v l0.t l0.p l0.f l0.w l0.u l0.x l0.g l0.d l1.v l1.t l1.p l1.f l1.w l1.u l1.x l1.g l1.d)):=set_range h s hs8 l0 l1 h0 h1
 have hb:=h.2.2
 have I0:=ix0
 have I1:=ix1
 have FA:Hid (∀ w:World,Calls Tryz.prog 58 #[.agg (sy l0.v l0.t l0.p l0.f l0.w l0.u l0.x l0.g l0.d),.int .i64 tag,.int .i64 page] w (re (.bool false) w)):=fun w=>by rw [<- f0];exact fits_any l0 tag page w
 have FB:Hid (∀ w:World,Calls Tryz.prog 58 #[.agg (sy l1.v l1.t l1.p l1.f l1.w l1.u l1.x l1.g l1.d),.int .i64 tag,.int .i64 page] w (re (.bool false) w)):=fun w=>by rw [<- f1];exact fits_any l1 tag page w
 clear h h0 h1 f0 f1
 have k0:(0:Int)<=(s:Int):=by omega
 have k8:(s:Int)<8:=by omega
 have HS:Hid (page % 8=(s:Int)):=hs
 go_enter Tryz.func32,Tryz.ntmps32
 go_wp2_with (refine load_pat b (s*18) (sa1 l0.v l0.t l0.p l0.f l0.w l0.u l0.x l0.g l0.d l1.v l1.t l1.p l1.f l1.w l1.u l1.x l1.g l1.d) (.array 2 107) ?hx ?hc ?hu ?hd ?hi ?rest;(case hx=>rfl);(case hc=>exact World.rangeAt_alloc RG.out _);(case hu=>exact Tryz.underlying128);(case hd=>rfl);(case hi=>exact set_info))
 refine wp_loop_rounds 3 ?_
 rw [rounds_succ]
 go_wp2_with fail
 refine (FA.out _).mono ?_
 rintro e u1 ⟨rfl,hb1⟩
 have B1:Hid (bc w u1):=below_then (Go.Joins.below_alloc2 _ _ _) hb1
 have R1:Hid (u1.heap[w.heap.size]? =some (.cells sl1 107 (0,0))):=(hb1.block _ kh).trans (own2a w _ _)
 have L1:Hid (u1.heap[w.heap.size+1]? =some (.cells (sy l0.v l0.t l0.p l0.f l0.w l0.u l0.x l0.g l0.d) 107 (0,0))):=(hb1.block _ (by simp)).trans (own2b w _ _)
 have TH1:Hid (u1.there w.heap.size 0 9):=there_block R1.out
 clear hb1
 go_wp2_with fail
 rw [rounds_succ]
 go_wp2_with fail
 refine (FB.out _).mono ?_
 rintro e u2 ⟨rfl,hb2⟩
 have B2:Hid (bc w u2):=below_then (below_new B1.out _) hb2
 have R2:Hid (u2.heap[w.heap.size]? =some (.cells sl1 107 (0,0))):=(hb2.block _ (by have:=(Array.getElem?_eq_some_iff.1 R1.out).1;simp;omega)).trans (((Go.Joins.below_alloc1 u1 _).block _ (Array.getElem?_eq_some_iff.1 R1.out).1).trans R1.out)
 have L2:Hid (u2.heap[u1.heap.size]? =some (.cells (sy l1.v l1.t l1.p l1.f l1.w l1.u l1.x l1.g l1.d) 107 (0,0))):=(hb2.block _ (by simp)).trans (own1 u1 _)
 have TH2:Hid (u2.there w.heap.size 0 9):=there_block R2.out
 clear hb2 R1 L1 B1 TH1
 go_wp2_with fail
 rw [rounds_succ]
 have r0:u2.cell? ⟨w.heap.size,0,none⟩=some (.bool false):=Go.Joins.cell_of_block R2.out 0
 have z0:u2.frozen? ⟨w.heap.size,0,none⟩=false:=Go.Joins.unfrozen_of_block R2.out 0
 have r1:u2.cell? ⟨w.heap.size,1,none⟩=some (.int .i64 0):=Go.Joins.cell_of_block R2.out 1
 have z1:u2.frozen? ⟨w.heap.size,1,none⟩=false:=Go.Joins.unfrozen_of_block R2.out 1
 have r2:u2.cell? ⟨w.heap.size,2,none⟩=some (.int .i64 0):=Go.Joins.cell_of_block R2.out 2
 have z2:u2.frozen? ⟨w.heap.size,2,none⟩=false:=Go.Joins.unfrozen_of_block R2.out 2
 have r3:u2.cell? ⟨w.heap.size,3,none⟩=some (.int .i64 0):=Go.Joins.cell_of_block R2.out 3
 have z3:u2.frozen? ⟨w.heap.size,3,none⟩=false:=Go.Joins.unfrozen_of_block R2.out 3
 have r4:u2.cell? ⟨w.heap.size,4,none⟩=some (.bool false):=Go.Joins.cell_of_block R2.out 4
 have z4:u2.frozen? ⟨w.heap.size,4,none⟩=false:=Go.Joins.unfrozen_of_block R2.out 4
 have r5:u2.cell? ⟨w.heap.size,5,none⟩=some (.bool false):=Go.Joins.cell_of_block R2.out 5
 have z5:u2.frozen? ⟨w.heap.size,5,none⟩=false:=Go.Joins.unfrozen_of_block R2.out 5
 have r6:u2.cell? ⟨w.heap.size,6,none⟩=some (.bool false):=Go.Joins.cell_of_block R2.out 6
 have z6:u2.frozen? ⟨w.heap.size,6,none⟩=false:=Go.Joins.unfrozen_of_block R2.out 6
 have r7:u2.cell? ⟨w.heap.size,7,none⟩=some (.bool false):=Go.Joins.cell_of_block R2.out 7
 have z7:u2.frozen? ⟨w.heap.size,7,none⟩=false:=Go.Joins.unfrozen_of_block R2.out 7
 have r8:u2.cell? ⟨w.heap.size,8,none⟩=some (.bool false):=Go.Joins.cell_of_block R2.out 8
 have z8:u2.frozen? ⟨w.heap.size,8,none⟩=false:=Go.Joins.unfrozen_of_block R2.out 8
 go_wp2_with fail
 change bodyPost _ _ _ _ _ (u2.setCells w.heap.size 0 sm1)
 have hr:=run_loadVar_mid (P:=Tryz.prog) (u2.setCells w.heap.size 0 sm1) w.heap.size 0 107 sm1 _ (World.rangeAt_setCells_same u2 w.heap.size 0 sm1 TH2.out) Tryz.underlying107 rfl line_info
 refine bodyPost_ret (v:=.tuple #[.agg sl1,.bool false]) ?_ rfl ⟨rfl,below_setCells B2.out _ _ _ (Nat.le_refl _)⟩
 exact results_pair Tryz.results32 _ _ _ _ _ _ rfl rfl hr
theorem find_any (b:Nat) (T:Nat->Ln) (tag page:Int) (w:World) (h:IsTlb w b T) :
 Calls Tryz.prog 32 (sf (.pointer (some ⟨b,0,none⟩)) tag page) w (re (.tuple #[(findT T tag page).1.val,.bool (findT T tag page).2]) w):=by
 unfold findT
 by_cases hp:page<0
 . simp only [if_pos hp];exact find_neg b tag page hp w
 . simp only [if_neg hp]
   have hs:page % 8=(((page % 8).toNat:Nat):Int):=by omega
   by_cases f0:(T (2*(page % 8).toNat)).fits tag page=true
   . simp only [f0,if_true];exact find_a b T tag page _ _ _ (by omega) hs rfl rfl f0 w h
   . have f0':(T (2*(page % 8).toNat)).fits tag page=false:=by simpa using f0
     simp only [f0',Bool.false_eq_true,if_false]
     by_cases f1:(T (2*(page % 8).toNat+1)).fits tag page=true
     . simp only [f1,if_true];exact find_b b T tag page _ _ _ (by omega) hs rfl rfl f0' f1 w h
     . have f1':(T (2*(page % 8).toNat+1)).fits tag page=false:=by simpa using f1
       simp only [f1',Bool.false_eq_true,if_false]
       exact find_c b T tag page _ _ _ (by omega) hs rfl rfl f0' f1' w h
theorem cell_setCells_ne {w:World} {b o:Nat} {vs:List Value} {x:Addr} (h:x.block≠b):(w.setCells b o vs).cell? x=w.cell? x:=World.cell?_setCells_out b vs o w x (fun hb _=>absurd hb h)
theorem wanted_mp {c:Prop} [Decidable c] {a b:Prop} (h:c) (ha:a):if c then a else b:=by rw [if_pos h];exact ha
theorem form_any (l:Ln) (w:World):Calls Tryz.prog 70 #[l.val] w (re (.bool l.ok) w):=by
 obtain ⟨v,t,p,f,lw,lu,lx,g,d⟩:=l
 cases v
 . go_enter Tryz.func70,Tryz.ntmps70
   go_wp2
   go_returns
   exact ⟨by simp [Ln.ok],baa⟩
 . by_cases h1:0<=t
   . by_cases h2:t<4096
     . by_cases h3:0<=p
       . by_cases h4:0<=f
         . have e1:decide (0<=t)=true:=by simp [h1]
           have e2:decide (t<4096)=true:=by simp [h2]
           have e3:decide (0<=p)=true:=by simp [h3]
           have e4:decide (0<=f)=true:=by simp [h4]
           go_enter Tryz.func70,Tryz.ntmps70
           go_wp2
           go_returns
           exact ⟨by simp only [Ln.ok,e1,e2,e3,e4];rfl,baa⟩
         . have e1:decide (0<=t)=true:=by simp [h1]
           have e2:decide (t<4096)=true:=by simp [h2]
           have e3:decide (0<=p)=true:=by simp [h3]
           have e4:decide (0<=f)=false:=kh
           go_enter Tryz.func70,Tryz.ntmps70
           go_wp2
           go_returns
           exact ⟨by simp only [Ln.ok,e1,e2,e3,e4];rfl,baa⟩
       . have e1:decide (0<=t)=true:=by simp [h1]
         have e2:decide (t<4096)=true:=by simp [h2]
         have e3:decide (0<=p)=false:=kh
         go_enter Tryz.func70,Tryz.ntmps70
         go_wp2
         go_returns
         exact ⟨by simp only [Ln.ok,e1,e2,e3];rfl,baa⟩
     . have e1:decide (0<=t)=true:=by simp [h1]
       have e2:decide (t<4096)=false:=kh
       go_enter Tryz.func70,Tryz.ntmps70
       go_wp2
       go_returns
       exact ⟨by simp only [Ln.ok,e1,e2];rfl,baa⟩
   . have e1:decide (0<=t)=false:=by simp;omega
     go_enter Tryz.func70,Tryz.ntmps70
     go_wp2
     go_returns
     exact ⟨by simp only [Ln.ok,e1];rfl,baa⟩
def fillT (T:Nat->Ln) (way:Int) (l:Ln):Nat->Ln:=fun i=>if i=2*(l.p % 8).toNat+way.toNat then l else dropT T l.beats 16 i
theorem fill_ok (b:Nat) (T:Nat->Ln) (l:Ln) (y s:Nat) (hy:y<2) (hl:l.ok=true) (hp:0<=l.p) (hs:l.p % 8=(s:Int)) (w:World) (h:IsTlb w b T) :
 Calls Tryz.prog 37 #[.pointer (some ⟨b,0,none⟩),.int .i64 y,l.val] w fun e w'=>e=.returned (.int .i64 0)/\IsTlb w' b (fillT T y l)/\w.grownBy w' (some b):=by
 have hmf: ∀ (fn:Fn) (first cap:Array Value) (w:World),(Instr.makeFunc fn first cap).run Tryz.prog w=.ok (.func fn first cap) w:=fun _ _ _ _=>rfl
 have hb:=h.2.2
 have hs8:s<8:=by omega
 have e1:decide ((y:Int)<0)=false:=by simp
 have e2:decide (2<=(y:Int))=false:=kh
 have htm:l.p.tmod 8=(s:Int):=by rw [Int.tmod_eq_emod_of_nonneg hp];exact hs
 have FO:Hid (∀ w:World,Calls Tryz.prog 70 #[.agg (sy l.v l.t l.p l.f l.w l.u l.x l.g l.d)] w (re (.bool true) w)):=fun w=>by rw [<- hl];exact form_any l w
 have D:Hid (∀ W:World,IsTlb W b T->(W.cell? ⟨w.heap.size,1,none⟩=some (.int .i64 l.t)/\W.cell? ⟨w.heap.size,2,none⟩=some (.int .i64 l.p)/\W.cell? ⟨w.heap.size,7,none⟩=some (.bool l.g)/\w.heap.size<W.heap.size)->Calls Tryz.prog 71 #[.pointer (some ⟨b,0,none⟩),.func (.func 72) #[] #[.pointer (some ⟨w.heap.size,0,none⟩)]] W fun e w'=>e=.returned (.tuple #[])/\IsTlb w' b (dropT T l.beats 16)/\W.grownBy w' (some b)):=fun W hT hc =>
  drop1 b 72 w.heap.size T l.beats (fun W=>W.cell? ⟨w.heap.size,1,none⟩=some (.int .i64 l.t)/\W.cell? ⟨w.heap.size,2,none⟩=some (.int .i64 l.p)/\W.cell? ⟨w.heap.size,7,none⟩=some (.bool l.g)/\w.heap.size<W.heap.size)
   (fun W W' c hg=>⟨cell_grown hg (by omega) (by omega) c.1,cell_grown hg (by omega) (by omega) c.2.1,cell_grown hg (by omega) (by omega) c.2.2.1,nla c.2.2.2 hg.size⟩)
   (fun args w=>by kernel_rfl)
   (fun W x c=>fill_cl l x _ W c.1 c.2.1 c.2.2.1 c.2.2.2) W hT hc
 have HT:Hid (IsTlb w b T):=h
 have HS:Hid (l.p % 8=(s:Int)):=hs
 have k0:(0:Int)<=(s:Int):=by omega
 have k8:(s:Int)<8:=by omega
 have j0:(0:Int)<=(y:Int):=by omega
 have j2:(y:Int)<2:=by omega
 clear h hl
 go_enter Tryz.func37,Tryz.ntmps37
 go_wp2_with fail
 refine (FO.out _).mono ?_
 rintro e u1 ⟨rfl,hb1⟩
 have O1:Hid (u1.heap[w.heap.size]? =some (.cells (sy l.v l.t l.p l.f l.w l.u l.x l.g l.d) 107 (0,0))):=(hb1.block _ (by simp)).trans (own1 w _)
 have B1:Hid (bc w u1):=below_then baa hb1
 have z1:w.heap.size<u1.heap.size:=nla (by simp) hb1.size
 clear hb1
 go_wp2_with fail
 refine (D.out _ (HT.out.below B1.out) ⟨Go.Joins.cell_of_block O1.out 1,Go.Joins.cell_of_block O1.out 2,Go.Joins.cell_of_block O1.out 7,z1⟩).mono ?_
 rintro e u2 ⟨rfl,hT2,hg2⟩
 have T2:Hid (IsTlb u2 b (dropT T l.beats 16)):=hT2
 have G2:Hid (w.grownBy u2 (some b)):=grown_trans (grown_of_below B1.out _) hg2
 have TH:Hid (u2.there b (s*18+y*9) 9):=hT2.free _ _ (by omega)
 have c0:u2.cell? ⟨w.heap.size,0,none⟩=some (.bool l.v):=cell_grown hg2 z1 (by omega) (Go.Joins.cell_of_block O1.out 0)
 have c1:u2.cell? ⟨w.heap.size,1,none⟩=some (.int .i64 l.t):=cell_grown hg2 z1 (by omega) (Go.Joins.cell_of_block O1.out 1)
 have c2:u2.cell? ⟨w.heap.size,2,none⟩=some (.int .i64 l.p):=cell_grown hg2 z1 (by omega) (Go.Joins.cell_of_block O1.out 2)
 have c3:u2.cell? ⟨w.heap.size,3,none⟩=some (.int .i64 l.f):=cell_grown hg2 z1 (by omega) (Go.Joins.cell_of_block O1.out 3)
 have c4:u2.cell? ⟨w.heap.size,4,none⟩=some (.bool l.w):=cell_grown hg2 z1 (by omega) (Go.Joins.cell_of_block O1.out 4)
 have c5:u2.cell? ⟨w.heap.size,5,none⟩=some (.bool l.u):=cell_grown hg2 z1 (by omega) (Go.Joins.cell_of_block O1.out 5)
 have c6:u2.cell? ⟨w.heap.size,6,none⟩=some (.bool l.x):=cell_grown hg2 z1 (by omega) (Go.Joins.cell_of_block O1.out 6)
 have c7:u2.cell? ⟨w.heap.size,7,none⟩=some (.bool l.g):=cell_grown hg2 z1 (by omega) (Go.Joins.cell_of_block O1.out 7)
 have c8:u2.cell? ⟨w.heap.size,8,none⟩=some (.bool l.d):=cell_grown hg2 z1 (by omega) (Go.Joins.cell_of_block O1.out 8)
 have TD:Hid (IsTlb u2.drew b (dropT T l.beats 16)):=hT2
 have GD:Hid (w.grownBy u2.drew (some b)):=⟨G2.out.os,G2.out.tape,G2.out.output,G2.out.size,G2.out.block⟩
 clear hT2 hg2 D FO z1 O1 B1
 go_wp2_with fail
 refine hda (fun c=>c.cell? ⟨w.heap.size,0,none⟩=some (.bool l.v)/\c.cell? ⟨w.heap.size,1,none⟩=some (.int .i64 l.t)/\c.cell? ⟨w.heap.size,2,none⟩=some (.int .i64 l.p)/\c.cell? ⟨w.heap.size,3,none⟩=some (.int .i64 l.f)/\c.cell? ⟨w.heap.size,4,none⟩=some (.bool l.w)/\c.cell? ⟨w.heap.size,5,none⟩=some (.bool l.u)/\c.cell? ⟨w.heap.size,6,none⟩=some (.bool l.x)/\c.cell? ⟨w.heap.size,7,none⟩=some (.bool l.g)/\c.cell? ⟨w.heap.size,8,none⟩=some (.bool l.d)/\Hid (c.there b (s*18+y*9) 9)) (⟨c0,c1,c2,c3,c4,c5,c6,c7,c8,TH.out⟩) fun hHeld=> ?_
 clear c0 c1 c2 c3 c4 c5 c6 c7 c8
 refine tma 0 21 rfl ?_
 try simp only [Act.put,zaa,zba,zca]
 refine tma 1 22 rfl ?_
 try simp only [Act.put,zaa,zba,zca]
 refine tma 2 23 rfl ?_
 try simp only [Act.put,zaa,zba,zca]
 refine tma 3 24 rfl ?_
 try simp only [Act.put,zaa,zba,zca]
 refine tma 4 25 rfl ?_
 try simp only [Act.put,zaa,zba,zca]
 refine tma 5 26 rfl ?_
 try simp only [Act.put,zaa,zba,zca]
 refine tma 6 27 rfl ?_
 try simp only [Act.put,zaa,zba,zca]
 refine tma 7 28 rfl ?_
 try simp only [Act.put,zaa,zba,zca]
 refine tma 8 29 rfl ?_
 try simp only [Act.put,zaa,zba,zca]
 refine tma 9 30 rfl ?_
 try simp only [Act.put,zaa,zba,zca]
 obtain ⟨s0,s1,s2,s3,s4,s5,s6,s7,s8,th⟩:=hHeld
 clear T2 G2 TH
 generalize u2.drew=U at th TD GD s0 s1 s2 s3 s4 s5 s6 s7 s8 |-
 refine rda 10 ⟨none,.store 107 (.tmp 30) (.tmp 26),_,_,_,none⟩ rfl fun K hK=> ?_
 refine wanted_mp rfl ?_
 refine wp_store_mid _ _ _ rfl b (s*18+y*9) (sy l.v l.t l.p l.f l.w l.u l.x l.g l.d) rfl rfl th.out line_info (ln_one l) ?_
 have V:IsTlb (U.setCells b (s*18+y*9) (sx l.v l.t l.p l.f l.w l.u l.x l.g l.d)) b (fillT T y l):=by
  have:=(TD.out.put (2*s+y) (by omega) l).congr (T':=fillT T y l) (fun i _=>by
   unfold fillT
   rw [HS.out,Int.toNat_natCast,Int.toNat_natCast])
  rw [show (2*s+y)*9=s*18+y*9 by omega] at this
  exact this
 have VG:w.grownBy (U.setCells b (s*18+y*9) (sx l.v l.t l.p l.f l.w l.u l.x l.g l.d)) (some b):=grown_trans GD.out (grown_setCells b _ _ _)
 refine hK.out _ _ ?_ (fun hHeld1=> ?_)
 . exact ⟨(cell_setCells_ne kg1).trans s0,(cell_setCells_ne kg1).trans s1,(cell_setCells_ne kg1).trans s2,(cell_setCells_ne kg1).trans s3,(cell_setCells_ne kg1).trans s4,(cell_setCells_ne kg1).trans s5,(cell_setCells_ne kg1).trans s6,(cell_setCells_ne kg1).trans s7,(cell_setCells_ne kg1).trans s8,World.there_setCells th.out _ _ _⟩
 have HV:Hid _:=V
 have HG:Hid _:=VG
 clear hK K hHeld1 V VG TD GD th s0 s1 s2 s3 s4 s5 s6 s7 s8
 try simp only [Act.put,zaa,zba,zca]
 refine wpAnyH_done ka ?_ _
 refine NoPanic.normal ?_
 try simp only [List.toList_toArray]
 generalize U.setCells b (s*18+y*9) (sx l.v l.t l.p l.f l.w l.u l.x l.g l.d)=X at HV HG |-
 go_wp2_with fail
 go_ret
 exact ⟨rfl,HV.out,HG.out⟩
def flatT (T:Nat->Ln):List Value:=[.bool (T (0)).v,.int .i64 (T (0)).t,.int .i64 (T (0)).p,.int .i64 (T (0)).f,.bool (T (0)).w,.bool (T (0)).u,.bool (T (0)).x,.bool (T (0)).g,.bool (T (0)).d,.bool (T (1)).v,.int .i64 (T (1)).t,.int .i64 (T (1)).p,.int .i64 (T (1)).f,.bool (T (1)).w,.bool (T (1)).u,.bool (T (1)).x,.bool (T (1)).g,.bool (T (1)).d,.bool (T (2)).v,.int .i64 (T (2)).t,.int .i64 (T (2)).p,.int .i64 (T (2)).f,.bool (T (2)).w,.bool (T (2)).u,.bool (T (2)).x,.bool (T (2)).g,.bool (T (2)).d,.bool (T (3)).v,.int .i64 (T (3)).t,.int .i64 (T (3)).p,.int .i64 (T (3)).f,.bool (T (3)).w,.bool (T (3)).u,.bool (T (3)).x,.bool (T (3)).g,.bool (T (3)).d,.bool (T (4)).v,.int .i64 (T (4)).t,.int .i64 (T (4)).p,.int .i64 (T (4)).f,.bool (T (4)).w,.bool (T (4)).u,.bool (T (4)).x,.bool (T (4)).g,.bool (T (4)).d,.bool (T (5)).v,.int .i64 (T (5)).t,.int .i64 (T (5)).p,.int .i64 (T (5)).f,.bool (T (5)).w,.bool (T (5)).u,.bool (T (5)).x,.bool (T (5)).g,.bool (T (5)).d,.bool (T (6)).v,.int .i64 (T (6)).t,.int .i64 (T (6)).p,.int .i64 (T (6)).f,.bool (T (6)).w,.bool (T (6)).u,.bool (T (6)).x,.bool (T (6)).g,.bool (T (6)).d,.bool (T (7)).v,.int .i64 (T (7)).t,.int .i64 (T (7)).p,.int .i64 (T (7)).f,.bool (T (7)).w,.bool (T (7)).u,.bool (T (7)).x,.bool (T (7)).g,.bool (T (7)).d,.bool (T (8)).v,.int .i64 (T (8)).t,.int .i64 (T (8)).p,.int .i64 (T (8)).f,.bool (T (8)).w,.bool (T (8)).u,.bool (T (8)).x,.bool (T (8)).g,.bool (T (8)).d,.bool (T (9)).v,.int .i64 (T (9)).t,.int .i64 (T (9)).p,.int .i64 (T (9)).f,.bool (T (9)).w,.bool (T (9)).u,.bool (T (9)).x,.bool (T (9)).g,.bool (T (9)).d,.bool (T (10)).v,.int .i64 (T (10)).t,.int .i64 (T (10)).p,.int .i64 (T (10)).f,.bool (T (10)).w,.bool (T (10)).u,.bool (T (10)).x,.bool (T (10)).g,.bool (T (10)).d,.bool (T (11)).v,.int .i64 (T (11)).t,.int .i64 (T (11)).p,.int .i64 (T (11)).f,.bool (T (11)).w,.bool (T (11)).u,.bool (T (11)).x,.bool (T (11)).g,.bool (T (11)).d,.bool (T (12)).v,.int .i64 (T (12)).t,.int .i64 (T (12)).p,.int .i64 (T (12)).f,.bool (T (12)).w,.bool (T (12)).u,.bool (T (12)).x,.bool (T (12)).g,.bool (T (12)).d,.bool (T (13)).v,.int .i64 (T (13)).t,.int .i64 (T (13)).p,.int .i64 (T (13)).f,.bool (T (13)).w,.bool (T (13)).u,.bool (T (13)).x,.bool (T (13)).g,.bool (T (13)).d,.bool (T (14)).v,.int .i64 (T (14)).t,.int .i64 (T (14)).p,.int .i64 (T (14)).f,.bool (T (14)).w,.bool (T (14)).u,.bool (T (14)).x,.bool (T (14)).g,.bool (T (14)).d,.bool (T (15)).v,.int .i64 (T (15)).t,.int .i64 (T (15)).p,.int .i64 (T (15)).f,.bool (T (15)).w,.bool (T (15)).u,.bool (T (15)).x,.bool (T (15)).g,.bool (T (15)).d]
def T0:Nat->Ln:=fun _=>Ln.zero
theorem flat_get (T:Nat->Ln) (q r:Nat) (q16:q<16) (r9:r<9):(flatT T)[q*9+r]? =(T q).enc[r]? :=by
 rcases (show q=0\/q=1\/q=2\/q=3\/q=4\/q=5\/q=6\/q=7\/q=8\/q=9\/q=10\/q=11\/q=12\/q=13\/q=14\/q=15 by omega) with rfl | rfl | rfl | rfl | rfl | rfl | rfl | rfl | rfl | rfl | rfl | rfl | rfl | rfl | rfl | rfl <;> rcases (show r=0\/r=1\/r=2\/r=3\/r=4\/r=5\/r=6\/r=7\/r=8 by omega) with rfl | rfl | rfl | rfl | rfl | rfl | rfl | rfl | rfl <;> rfl
theorem zero30: ∃ Zs:Array Value,(∀ W:World,(zeroValue 131).run Tryz.prog W=.ok (.agg Zs) W)/\Zs.size=144/\ ∀ q r,q<16->r<9->Zs[q*9+r]? =Ln.zero.enc[r]? :=
 ⟨(flatT T0).toArray,fun W=>by kernel_rfl,rfl,fun q r h1 h2=>by rw [List.getElem?_toArray];exact flat_get T0 q r h1 h2⟩
theorem IsTlb.made (w:World) (Zs:Array Value) (hs:Zs.size=144) (hz: ∀ q r,q<16->r<9->Zs[q*9+r]? =Ln.zero.enc[r]?):IsTlb (w.alloc (.cells Zs 131)) w.heap.size T0:=by
 refine ⟨fun i hi j v hv=> ?_,?_,by simp⟩
 . have hj:j<9:=(List.getElem?_eq_some_iff.1 hv).1
   exact (Go.Joins.cell_of_block (own1 w _) _).trans ((hz i j hi hj).trans hv)
 . have:=there_block (own1 w (.cells Zs 131))
   rwa [hs] at this
def Own (w W:World) (b:Nat) (T:Nat->Ln):Prop:=IsTlb W b T/\bc w W/\w.heap.size<=b
def l9:Ln:=⟨true,1,9,5,false,false,false,false,false⟩
end Go.Proofs.YtgbdnnkkcpkhdaaGreatDoor.Tl
