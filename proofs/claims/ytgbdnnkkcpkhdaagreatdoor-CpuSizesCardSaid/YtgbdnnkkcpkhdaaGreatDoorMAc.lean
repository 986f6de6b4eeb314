import Derived.Test.YtgbdnnkkcpkhdaaGreatDoorMSc
import Derived.Test.YtgbdnnkkcpkhdaaGreatDoorMPc
import Derived.Test.YtgbdnnkkcpkhdaaGreatDoorMUc
import Derived.Test.YtgbdnnkkcpkhdaaGreatDoorMQc
import Derived.Test.YtgbdnnkkcpkhdaaGreatDoorKZc
set_option linter.unusedSimpArgs false
set_option linter.unusedVariables false
set_option maxRecDepth 8000
set_option maxHeartbeats 4000000
open Go.ChangeShapes Go.WideShapes Go.ChangeAt Go.RowKit Go.Maps
namespace Go.Proofs.YtgbdnnkkcpkhdaaGreatDoor.Tt
theorem ram_other {w w':World} {K:Nat->Prop} {S:List Nat} {rb n:Nat} {has:Int->Bool} {F:Int} {M:Int->Int} (h:Ram5 w K S rb has F M n) (hs:w.heap.size<=w'.heap.size)
 (hb: ∀ j,j<w.heap.size->(¬ K j\/j∈S)->w'.heap[j]? =w.heap[j]?):Ram5 w' (fun j=>K j\/(w.heap.size<=j/\j<w'.heap.size)) S rb has F M n:=by
 obtain ⟨⟨mb,S',pg,⟨q1,q2,hk',q3,q4,q5,hm,hp,hi,hz,hb'⟩,h1,h2,h3⟩,hk,hS⟩:=h
 have hrb:=hk.2.1 rb hk.1
 have erb:=hb rb hrb (Or.inr hk.1)
 have hmb:=hm.lt
 have nmb:mb∉S:=fun e=>h1 (hS mb e)
 have hk2:HasOk w' rb S has:=hk.keep (fun s hs'=>hb s (hk.2.1 s hs') (Or.inr hs')) hs
 have hm2:Mem w' mb n pg:=by
  obtain ⟨D,⟨es,clock,hbk,rest⟩,hat⟩:=hm
  exact ⟨D,⟨es,clock,(hb mb hmb (Or.inl h1)).trans hbk,rest⟩,hat⟩
 refine ⟨⟨mb,S,pg,⟨q1,q2,hk2,nmb,?_,?_,hm2,fun k b e=> ?_,hi,hz,hb'⟩,?_,fun k b e=> ?_,fun j hj=> ?_⟩,hk2,fun s hs'=>Or.inl (hS s hs')⟩
 . rw [World.cell?_of_block (w:=w) (a:=⟨rb,0,none⟩) erb];exact q4
 . rw [World.cell?_of_block (w:=w) (a:=⟨rb,2,none⟩) erb];exact q5
 . obtain ⟨r1,r2,r3,r4,r5⟩:=hp k b e
   exact ⟨r1,nla r2 hs,fun e'=>h2 k b e (hS b e'),r4,r5.of_block (hb b r2 (Or.inl (h2 k b e)))⟩
 . rintro (e | e)
   . exact h1 e
   . omega
 . rintro (e' | e')
   . exact h2 k b e e'
   . have:=(hp k b e).2.1;omega
 . rcases hj with e | e
   . exact nla (h3 j e) hs
   . exact e.2
theorem tree_block {w w':World} {b:Nat} {T:Nat->Qu.Nd} (h:Qu.IsTree w b T) (hs:w.heap.size<=w'.heap.size) (e:w'.heap[b]? =w.heap[b]?):Qu.IsTree w' b T:=by
 obtain ⟨h1,h2,h3⟩:=h
 refine ⟨fun i hi j v hv=> ?_,fun j hj=> ?_,nla h3 hs⟩
 . rw [World.cell?_of_block (w:=w) (a:=⟨b,i*5+j,none⟩) e];exact h1 i hi j v hv
 . rw [World.cell?_of_block (w:=w) (a:=⟨b,0+j,none⟩) e,World.frozen?_of_block (w:=w) (a:=⟨b,0+j,none⟩) e];exact h2 j hj
theorem tab_block {w w':World} (h:Tab w) (hs:w.heap.size<=w'.heap.size) (e:w'.heap[0]? =w.heap[0]?):Tab w':=by
 have hc: ∀ i,w'.cell? ⟨0,i,none⟩=w.cell? ⟨0,i,none⟩:=fun i=>by simp [World.cell?,e]
 refine ⟨nla h.1 hs,?_⟩
 simp only [hc]
 exact h.2
structure Pm where
 rb:Nat
 b:Nat
 tb:Nat
 has:Int->Bool
 F:Int
structure Ps where
 M:Int->Int
 Fr:Nat->Prop
 G:Int->Option Int
 T:Nat->Qu.Nd
 q:Nat
structure Sound (m:Pm) (s:Ps):Prop where
 hb: ∀ k,m.has k=true->0<=k/\k<m.F
 F1:m.F<=1000000
 fh: ∀ i:Nat,s.Fr i->m.has i=true
 gh: ∀ x,(s.G x).isSome=true->m.has x=true
 ok:Qu.OkT s.T
 fg: ∀ i:Nat,s.Fr i->s.G i=none
structure PuK (K Z:Nat->Prop) (S:List Nat) (X:Nat->Prop) (W:World) (m:Pm) (s:Ps):Prop where
 ram:Ram5 W K S m.rb m.has m.F s.M s.q
 bud:Bd.Bu Z W m.b 1000000 s.Fr s.G
 tree:Qu.IsTree W m.tb s.T
 one: ∀ j,j<W.heap.size->(K j/\j∉S)\/Z j
 kt:K m.tb/\m.tb∉S/\Z m.tb
 x: ∀ j,X j->K j/\j∉S/\Z j/\j≠m.tb
 tab:Tab W
 x0:X 0
 so:Sound m s
def Pu (X:Nat->Prop) (W:World) (m:Pm) (s:Ps):Prop:= ∃ K Z S,PuK K Z S X W m s
section
variable {X:Nat->Prop} {W:World} {m:Pm} {s:Ps}
theorem Pu.so (h:Pu X W m s):Sound m s:=by obtain ⟨K,Z,S,h⟩:=h;exact h.so
theorem Pu.tab (h:Pu X W m s):Tab W:=by obtain ⟨K,Z,S,h⟩:=h;exact h.tab
theorem Pu.lt (h:Pu X W m s): ∀ j,X j->j<W.heap.size:=by
 obtain ⟨K,Z,S,h⟩:=h;exact fun j hj=>h.ram.ram.dom j (h.x j hj).1
theorem Pu.less {X X':Nat->Prop} {W:World} {m:Pm} {s:Ps} (h:Pu X W m s) (hx: ∀ j,X' j->X j) (h0:X' 0):Pu X' W m s:=by
 obtain ⟨K,Z,S,h⟩:=h
 exact ⟨K,Z,S,h.ram,h.bud,h.tree,h.one,h.kt,fun j hj=>h.x j (hx j hj),h.tab,h0,h.so⟩
theorem Pu.other {X:Nat->Prop} {W W':World} {m:Pm} {s:Ps} (h:Pu X W m s) (hs:W.heap.size<=W'.heap.size) (hb: ∀ j,j<W.heap.size-> ¬ X j->W'.heap[j]? =W.heap[j]?) (h0:W'.heap[0]? =W.heap[0]?) :
 Pu (fun j=>X j\/(W.heap.size<=j/\j<W'.heap.size)) W' m s:=by
 obtain ⟨K,Z,S,h⟩:=h
 have hS: ∀ j,j∈S->j<W.heap.size:=h.ram.ok.2.1
 refine ⟨_,_,S,ram_other h.ram hs (fun j hj c=>hb j hj (fun x=> ?_)),h.bud.next hs (fun j hj nz=>hb j hj (fun x=>nz (h.x j x).2.2.1)),tree_block h.tree hs (hb _ h.tree.2.2 (fun x=>(h.x _ x).2.2.2 rfl)),fun j hj=> ?_,⟨Or.inl h.kt.1,h.kt.2.1,Or.inl h.kt.2.2⟩,fun j hj=> ?_,tab_block h.tab hs h0,Or.inl h.x0,h.so⟩
 . rcases c with c | c
   . exact c (h.x j x).1
   . exact (h.x j x).2.1 c
 . by_cases l:j<W.heap.size
   . rcases h.one j l with o | o
     . exact Or.inl ⟨Or.inl o.1,o.2⟩
     . exact Or.inr (Or.inl o)
   . exact Or.inr (Or.inr ⟨by omega,hj⟩)
 . rcases hj with x | x
   . obtain ⟨a,b,c,d⟩:=h.x j x
     exact ⟨Or.inl a,b,Or.inl c,d⟩
   . refine ⟨Or.inr x,fun e=> ?_,Or.inr x,fun e=> ?_⟩
     . have:=hS j e;omega
     . have:=h.tree.2.2;omega
theorem Pu.grow {X:Nat->Prop} {W W':World} {m:Pm} {s:Ps} (h:Pu X W m s) (hb:bc W W'):Pu (fun j=>X j\/(W.heap.size<=j/\j<W'.heap.size)) W' m s :=
 h.other hb.size (fun j hj _=>hb.block j hj) (hb.block 0 h.tab.1)
theorem Pu.below {X:Nat->Prop} {W W':World} {m:Pm} {s:Ps} (h:Pu X W m s) (hb:bc W W'):Pu X W' m s:=by
 have x0:X 0:=by obtain ⟨K,Z,S,h⟩:=h;exact h.x0
 exact (h.grow hb).less (fun j hj=>Or.inl hj) x0
theorem Pu.grown {X:Nat->Prop} {W W':World} {m:Pm} {s:Ps} (h:Pu X W m s) (hg:W.grownBy W' none):Pu X W' m s:=h.below ⟨hg.os,hg.tape,hg.output,hg.size,fun k hk=>hg.block k hk (by simp)⟩
theorem Pu.poke {X:Nat->Prop} {W W':World} {m:Pm} {s:Ps} (h:Pu X W m s) {j:Nat} (hj:X j) (j0:j≠0) (hg:W.grownBy W' (some j)):Pu X W' m s:=by
 have x0:X 0:=by obtain ⟨K,Z,S,h⟩:=h;exact h.x0
 exact (h.other hg.size (fun k hk nx=>hg.block k hk (fun e=>nx (by have:=sia e;subst this;exact hj))) (hg.block 0 h.tab.1 (fun e=>j0 (by have:=sia e;omega)))).less (fun j hj=>Or.inl hj) x0
abbrev Kx (X:Nat->Prop) (W W':World):Prop:=Kept X W W'
theorem Kx.of_grown {X:Nat->Prop} {W W':World} {m:Pm} {s:Ps} (h:Pu X W m s) (hg:W.grownBy W' none):Kx X W W':=kept_of_grown0 hg h.lt
theorem Kx.of_below {X:Nat->Prop} {W W':World} {m:Pm} {s:Ps} (h:Pu X W m s) (hb:bc W W'):Kx X W W':=kept_of_below hb h.lt
theorem PuK.treeN {K Z:Nat->Prop} {S:List Nat} {X:Nat->Prop} {W W':World} {m:Pm} {s:Ps} (h:PuK K Z S X W m s) {T':Nat->Qu.Nd} (hT:Qu.IsTree W' m.tb T') (hg:W.grownBy W' (some m.tb)) (ok:Qu.OkT T') :
 Pu X W' m { s with T:=T' }/\Kx X W W':=by
 have e0:W'.heap[0]? =W.heap[0]? :=hg.block 0 h.tab.1 (fun e=>by
  have:=sia e
  exact (h.x 0 h.x0).2.2.2 (by omega))
 refine ⟨⟨K,_,S,h.ram.poke hg h.kt.1 h.kt.2.1,h.bud.next hg.size (fun j hj nz=>hg.block j hj (fun e=>nz (by have:=sia e;subst this;exact h.kt.2.2))),hT,fun j hj=> ?_,⟨h.kt.1,h.kt.2.1,Or.inl h.kt.2.2⟩,fun j hj=> ?_,tab_block h.tab hg.size e0,h.x0,?_⟩,?_⟩
 . by_cases l:j<W.heap.size
   . exact (h.one j l).imp id Or.inl
   . exact Or.inr (Or.inr ⟨by omega,hj⟩)
 . obtain ⟨a,b,c,d⟩:=h.x j hj
   exact ⟨a,b,Or.inl c,d⟩
 . obtain ⟨a,b,c,d,e,fg⟩:=h.so
   exact ⟨a,b,c,d,ok,fg⟩
 . exact ⟨hg.os,hg.tape,hg.output,hg.size,fun j hj=>hg.block j (h.ram.ram.dom j (h.x j hj).1) (fun e=>(h.x j hj).2.2.2 (by have:=sia e;omega))⟩
theorem PuK.budN {K Z:Nat->Prop} {S:List Nat} {X:Nat->Prop} {W W':World} {m:Pm} {s:Ps} (h:PuK K Z S X W m s) {Fr':Nat->Prop} {G':Int->Option Int} (hB:Bd.Bu Z W' m.b 1000000 Fr' G') (kf:Bd.Kf (fun j=> ¬ Z j) W W') (fh: ∀ i:Nat,Fr' i->m.has i=true) (gh: ∀ x,(G' x).isSome=true->m.has x=true) (fg': ∀ i:Nat,Fr' i->G' i=none) :
 Pu X W' m { s with Fr:=Fr',G:=G' }/\Kx X W W':=by
 have hz: ∀ j,j<W.heap.size->Z j->W'.heap[j]? =W.heap[j]? :=fun j hj z=>kf.block j hj (fun e=>e z)
 have hx: ∀ j,X j->W'.heap[j]? =W.heap[j]? :=fun j hj=>hz j (h.ram.ram.dom j (h.x j hj).1) (h.x j hj).2.2.1
 refine ⟨⟨_,Z,S,ram_other h.ram kf.size (fun j hj c=>hz j hj ?_),hB,tree_block h.tree kf.size (hz _ h.tree.2.2 h.kt.2.2),fun j hj=> ?_,⟨Or.inl h.kt.1,h.kt.2⟩,fun j hj=> ?_,tab_block h.tab kf.size (hx 0 h.x0),h.x0,?_⟩,?_⟩
 . rcases h.one j hj with o | o
   . rcases c with c | c
     . exact absurd o.1 c
     . exact absurd c o.2
   . exact o
 . by_cases l:j<W.heap.size
   . exact (h.one j l).imp (fun o=>⟨Or.inl o.1,o.2⟩) id
   . exact Or.inl ⟨Or.inr ⟨by omega,hj⟩,fun e=>by have:=h.ram.ok.2.1 j e;omega⟩
 . obtain ⟨a,b,c,d⟩:=h.x j hj
   exact ⟨Or.inl a,b,c,d⟩
 . obtain ⟨a,b,c,d,e,fg⟩:=h.so
   exact ⟨a,b,fh,gh,e,fg'⟩
 . exact ⟨kf.os,kf.tape,kf.output,kf.size,hx⟩
theorem PuK.ramN {K Z:Nat->Prop} {S:List Nat} {X:Nat->Prop} {W W':World} {m:Pm} {s:Ps} (h:PuK K Z S X W m s) {M':Int->Int} {q':Nat} (hr:IsRamK W' K m.rb m.has m.F M' q') (hk:Kept K W W') :
 Pu X W' m { s with M:=M',q:=q' }/\Kx X W W':=by
 have hx: ∀ j,X j->W'.heap[j]? =W.heap[j]? :=fun j hj=>hk.block j (h.x j hj).1
 refine ⟨⟨K,_,S,h.ram.next hr hk,h.bud.next hk.size (fun j hj nz=>hk.block j (by rcases h.one j hj with o | o;exact o.1;exact absurd o nz)),tree_block h.tree hk.size (hk.block _ h.kt.1),fun j hj=> ?_,⟨h.kt.1,h.kt.2.1,Or.inl h.kt.2.2⟩,fun j hj=> ?_,tab_block h.tab hk.size (hx 0 h.x0),h.x0,?_⟩,⟨hk.os,hk.tape,hk.output,hk.size,hx⟩⟩
 . by_cases l:j<W.heap.size
   . exact (h.one j l).imp id Or.inl
   . exact Or.inr (Or.inr ⟨by omega,hj⟩)
 . obtain ⟨a,b,c,d⟩:=h.x j hj
   exact ⟨a,b,Or.inl c,d⟩
 . obtain ⟨a,b,c,d,e,fg⟩:=h.so
   exact ⟨a,b,c,d,e,fg⟩
abbrev pp (k:Nat):Value:=.pointer (some ⟨k,0,none⟩)
theorem Pu.charge (h:Pu X W m s) (i n:Int) (ok:Qu.OkT (Qu.chargeT s.T i n)) :
 Calls Tryz.prog 105 (sf (pp m.tb) i n) W fun e w'=>e=.returned (.int .i64 (Qu.mayN s.T i n))/\Pu X w' m { s with T:=Qu.chargeT s.T i n }/\Kx X W w':=by
 obtain ⟨K,Z,S,h⟩:=h
 refine (Qu.charge_any m.tb s.T h.so.ok i n W h.tree).mono ?_
 rintro e w' ⟨he,hT,hg⟩
 exact ⟨he,h.treeN hT hg ok⟩
theorem Sound.frb {m:Pm} {s:Ps} (h:Sound m s) (i:Nat) (hi:s.Fr i):i<1000000:=by
 have:=h.hb i (h.fh i hi);have:=h.F1;omega
theorem Sound.gb {m:Pm} {s:Ps} (h:Sound m s) (x:Int) (hx:(s.G x).isSome=true):0<=x/\x<1000000:=by
 have:=h.hb x (h.gh x hx);have:=h.F1;omega
theorem Pu.take (h:Pu X W m s) (hs: ∃ i,s.Fr i) :
 Calls Tryz.prog 106 #[pp m.b,.int .i64 0] W fun e w'=> ∃ p:Nat,e=.returned (.tuple #[.int .i64 p,.int .i64 0])/\s.Fr p/\Pu X w' m { s with Fr:=fun i=>s.Fr i/\i≠p,G:=Bd.setF s.G p (some 0) }/\Kx X W w':=by
 obtain ⟨K,Z,S,h⟩:=h
 refine (h.bud.take1 h.so.frb h.so.gb hs).mono ?_
 rintro e w' ⟨p,he,hp,hB,kf⟩
 refine ⟨p,he,hp,h.budN hB kf (fun i hi=>h.so.fh i hi.1) (fun x hx=> ?_) (fun i hi=> ?_)⟩
 . by_cases c:x=(p:Int)
   . rw [c];exact h.so.fh p hp
   . rw [Bd.set_other _ _ _ _ c] at hx;exact h.so.gh x hx
 . rw [Bd.set_other _ _ _ _ (fun e=>hi.2 (by omega))];exact h.so.fg i hi.1
theorem Pu.isRam (h:Pu X W m s):IsRam W 0 m.rb m.has m.F s.M s.q:=by
 obtain ⟨K,Z,S,h⟩:=h
 exact h.ram.ram.ram
theorem Pu.hasc (h:Pu X W m s) (k:Int) :
 Calls Tryz.prog 62 #[pp m.rb,.int .i64 k] W fun e w'=>e=.returned (.bool (m.has k))/\W.grownBy w' none:=by
 obtain ⟨K,Z,S,h⟩:=h
 exact h.ram.ok.2.2 W (fun _ _=>rfl) (Nat.le_refl _) k
theorem Pu.zero (h:Pu X W m s) (k:Int) (hk:m.has k=true) :
 Calls Tryz.prog 89 #[pp m.rb,.int .i64 k] W fun e w'=>e=.returned (.int .i64 0)/\Pu X w' m { s with M:=mzero s.M k }/\Kx X W w':=by
 obtain ⟨K,Z,S,h⟩:=h
 have b:=h.so.hb k hk
 have f1:=h.so.F1
 refine (zero_K h.ram.ram k (by omega) (by omega) hk).mono ?_
 rintro e w' ⟨he,hr,hk⟩
 exact ⟨he,h.ramN hr hk⟩
theorem chk8 {m:Pm} {f i:Int} (hf:m.has f=true) (f0:0<=f) (f1:f<1000000) (i0:0<=i) (i1:i<512):chkG m.has (f*4096+i*8) 8=0:=by
 unfold chkG
 rw [if_pos (by simp),if_pos]
 refine ⟨by omega,?_,?_⟩
 . rw [show (f*4096+i*8) / 4096=f by omega];exact hf
 . rw [show (f*4096+i*8+8-1) / 4096=f by omega];exact hf
def En (M:Int->Int) (f i:Int):Int:=ld M (f*4096+i*8) 8
theorem Pu.load (h:Pu X W m s) (f i:Int) (hf:m.has f=true) (i0:0<=i) (i1:i<512) :
 Calls Tryz.prog 40 #[pp m.rb,.int .u64 (f*4096+i*8),.int .i64 8] W fun e w'=>e=.returned (.tuple #[.int .u64 (En s.M f i),.int .i64 0])/\W.grownBy w' none:=by
 have b:=h.so.hb f hf
 have f1:=h.so.F1
 exact load_okG h.isRam (f*4096+i*8) 8 (En s.M f i) (by omega) (by omega) (chk8 hf b.1 (by omega) i0 i1) rfl
def enSet (M:Int->Int) (f i x:Int):Int->Int:=mset M (f*4096+i*8) 8 x
theorem Pu.store (h:Pu X W m s) (hq:s.q<4611686018427387904) (f i x:Int) (hf:m.has f=true) (i0:0<=i) (i1:i<512) (x0:0<=x) (x1:x<18446744073709551616) :
 Calls Tryz.prog 39 #[pp m.rb,.int .u64 (f*4096+i*8),.int .i64 8,.int .u64 x] W fun e w'=>e=.returned (.int .i64 0)/\Pu X w' m { s with M:=enSet s.M f i x,q:=s.q+2 }/\Kx X W w':=by
 obtain ⟨K,Z,S,h⟩:=h
 have b:=h.so.hb f hf
 have f1:=h.so.F1
 refine (store_K h.ram.ram (by unfold maxLen;omega) (f*4096+i*8) 8 x (by omega) (by omega) (chk8 hf b.1 (by omega) i0 i1) x0 x1).mono ?_
 rintro e w' ⟨he,hr,hk⟩
 exact ⟨he,h.ramN hr hk⟩
theorem Pu.q (h:Pu X W m s) {q':Nat} (hq:s.q<=q'):Pu X W m { s with q:=q' }:=by
 obtain ⟨K,Z,S,h⟩:=h
 obtain ⟨a,b,c,d,e,fg⟩:=h.so
 exact ⟨K,Z,S,h.ram.mono hq,h.bud,h.tree,h.one,h.kt,h.x,h.tab,h.x0,⟨a,b,c,d,e,fg⟩⟩
abbrev pv (m:Pm) (box:Int):Value:=.agg #[pp m.rb,pp m.b,pp m.tb,.int .i64 box]
abbrev pc (m:Pm) (box:Int):Array Value:= #[pp m.rb,pp m.b,pp m.tb,.int .i64 box]
abbrev ev (p r u a d l g n:Bool) (f:Int):Value:=.agg (sd p r u a d l g n f)
theorem below_then {w x y:World} (h1:bc w x) (h2:bc x y):bc w y:=h1.trans (Go.Joins.below_le h2 h1.size)
theorem grown_below {w w':World} (hg:w.grownBy w' none):bc w w':=⟨hg.os,hg.tape,hg.output,hg.size,fun k hk=>hg.block k hk (by simp)⟩
theorem addr_any (f i:Int) (f0:0<=f) (f1:f<1000000) (i0:0<=i) (i1:i<512) (w:World):Calls Tryz.prog 51 #[.int .i64 f,.int .i64 i] w fun e w'=>e=.returned (.int .u64 (f*4096+i*8))/\w'=w:=by
 have e1:IntKind.u64.wrap f=f:=ki
 have e2:IntKind.u64.wrap i=i:=ki
 have e3:IntKind.u64.wrap (f*4096)=f*4096:=ki
 have e4:IntKind.u64.wrap (i*8)=i*8:=ki
 have e5:IntKind.u64.wrap (f*4096+i*8)=f*4096+i*8:=ki
 go_enter Tryz.func51,Tryz.ntmps51
 go_wp2
 go_ret
 exact ⟨rfl,rfl⟩
theorem leaf_any (f:Int) (a b c:Bool) (w:World):Calls Tryz.prog 131 #[.int .i64 f,.agg #[.bool a,.bool b,.bool c]] w (re (ev true a b false false false false (!c) f) w):=by
 go_enter Tryz.func131,Tryz.ntmps131
 go_wp2
 go_returns
 exact ⟨rfl,Go.Joins.below_alloc2 _ _ _⟩
theorem page_any (p:Int) (z:Bool) (hz:z=true↔0<=p/\p<34359738368) (w:World):Calls Tryz.prog 127 #[.int .i64 p] w fun e w'=>e=.returned (.bool z)/\w'=w:=by
 by_cases c:0<=p
 . have e1:decide ((0:Int)<=p)=true:=by simp [c]
   have e2:decide (p<34359738368)=z:=by
    rw [Bool.eq_iff_iff,hz];simp;omega
   clear hz
   go_enter Tryz.func127,Tryz.ntmps127
   go_wp2_with fail
   go_ret
   exact ⟨by simp [e2],rfl⟩
 . have e1:decide ((0:Int)<=p)=false:=by simp;omega
   have e2:z=false:=by
    cases z with
    | false => rfl
    | true => exact absurd (hz.1 rfl).1 c
   subst e2
   clear hz
   go_enter Tryz.func127,Tryz.ntmps127
   go_wp2_with fail
   go_ret
   exact ⟨rfl,rfl⟩
theorem ld_bd {M:Int->Int} (hM: ∀ t,0<=M t/\M t<256) (a:Int): ∀ n,0<=ld M a n/\ld M a n<256 ^ n
 | 0 => by simp [ld]
 | n + 1 => by
  have h:=ld_bd hM a n
  have b:=hM (a+n)
  show 0<=ld M a n+M (a+n)*256 ^ n/\ld M a n+M (a+n)*256 ^ n<256 ^ (n+1)
  rw [Int.pow_succ]
  generalize (256:Int) ^ n=Q at *
  have h1:M (a+n)*Q<=255*Q:=Int.mul_le_mul_of_nonneg_right (by omega) (by omega)
  have h2:0<=M (a+n)*Q:=Int.mul_nonneg b.1 (by omega)
  generalize M (a+n)*Q=Y at *
  omega
theorem en_bd {M:Int->Int} (hM: ∀ t,0<=M t/\M t<256) (f i:Int):0<=En M f i/\En M f i<18446744073709551616:=by
 have:=ld_bd hM (f*4096+i*8) 8
 exact ⟨this.1,by rw [show (18446744073709551616:Int)=256 ^ 8 from by decide];exact this.2⟩
theorem Pu.byte (h:Pu X W m s): ∀ t,0<=s.M t/\s.M t<256:=h.isRam.byte
def Blk (w:World) (b:Nat) (C:List Value) (t:TypeId):Prop:=w.heap[b]? =some (.cells C.toArray t (0,0))
theorem blk_lt {w:World} {b:Nat} {o:Obj} (h:w.heap[b]? =some o):b<w.heap.size:=(Array.getElem?_eq_some_iff.1 h).1
theorem own1 (w:World) (o:Obj):(w.alloc o).heap[w.heap.size]? =some o:=(MapKept.heap_alloc w o).1
theorem Blk.lt {w:World} {b:Nat} {C:List Value} {t:TypeId} (h:Blk w b C t):b<w.heap.size:=blk_lt h
theorem Blk.cell {w:World} {b:Nat} {C:List Value} {t:TypeId} (h:Blk w b C t) (i:Nat):w.cell? ⟨b,i,none⟩=C[i]? :=by rw [Go.Joins.cell_of_block h i];simp
theorem Blk.free {w:World} {b:Nat} {C:List Value} {t:TypeId} (h:Blk w b C t) (i:Nat):w.frozen? ⟨b,i,none⟩=false:=Go.Joins.unfrozen_of_block h i
theorem Blk.below {w w':World} {b:Nat} {C:List Value} {t:TypeId} (h:Blk w b C t) (k:bc w w'):Blk w' b C t:=(k.block b (blk_lt h)).trans h
theorem Blk.kx {X:Nat->Prop} {w w':World} {b:Nat} {C:List Value} {t:TypeId} (h:Blk w b C t) (k:Kx X w w') (hb:X b):Blk w' b C t:=(k.block b hb).trans h
theorem Blk.made (w:World) (C:List Value) (t:TypeId):Blk (w.alloc (.cells C.toArray t)) w.heap.size C t:=own1 w _
theorem Blk.set {w:World} {b:Nat} {C:List Value} {t:TypeId} (h:Blk w b C t) (i:Nat) (v:Value):Blk (w.setCell ⟨b,i,none⟩ v) b (C.set i v) t:=by
 unfold Blk
 rw [Go.Joins.block_setCell h];simp
theorem Blk.there {w:World} {b:Nat} {C:List Value} {t:TypeId} (h:Blk w b C t):w.there b 0 C.length:=fun j hj=>by
 rw [Nat.zero_add,h.cell j,List.getElem?_eq_getElem hj]
 exact ⟨rfl,h.free j⟩
theorem Blk.range {w:World} {b:Nat} {C:List Value} {t:TypeId} (h:Blk w b C t):w.rangeAt b 0 C:=fun j v hv=>by rw [Nat.zero_add,h.cell j];exact hv
theorem blk_sets {b:Nat} {t:TypeId}: ∀ (cs pre C:List Value) (w:World),Blk w b (pre++C) t->C.length=cs.length->Blk (w.setCells b pre.length cs) b (pre++cs) t
 | [], pre, C, w, h, e => by
  have:C=[]:=List.length_eq_zero_iff.1 e
  subst this;exact h
 | v :: r, pre, C, w, h, e => by
  cases C with
  | nil => simp at e
  | cons c C' =>
   rw [World.setCells]
   have h2:=h.set pre.length v
   have e2:(pre++c::C').set pre.length v=(pre++[v])++C':=by
    rw [List.set_append_right _ _ (Nat.le_refl _)];simp
   rw [e2] at h2
   have:=blk_sets r (pre++[v]) C' _ h2 (by simpa using e)
   rw [List.length_append] at this
   simpa using this
theorem Blk.put {w:World} {b:Nat} {C cs:List Value} {t:TypeId} (h:Blk w b C t) (e:C.length=cs.length):Blk (w.setCells b 0 cs) b cs t:=by
 have:=blk_sets cs [] C w (by simpa using h) e
 simpa using this
theorem store_pat {P:Program} {ops:Array Oper} {rest:List Oper} {ty t:TypeId} {x y:Operand} {pos:String} {af:Array Edge} {a:Act} {w:World} {Q:Exit->Act->World->Prop} (b o:Nat) (cells:Array Value) (hx:a.eval x=.pointer (some ⟨b,o,none⟩)) (hy:a.eval y=.agg cells)
 (ht:w.there b o cells.size) (hi:(P.info? ty).map (·.size)=some cells.size) (h1:cells.all (·.oneCell')=true)
 (h:wpList P ops Q rest a (w.setCells b o cells.toList)):wpList P ops Q ({ dst:=none,op:=.store ty x y,type:=t,pos:=pos,after:=af,guard:=none }::rest) a w :=
 wpList_store_mid rfl ty x y rfl b o cells hx hy ht hi h1 h
theorem load_pat {P:Program} {ops:Array Oper} {rest:List Oper} {ty t:TypeId} {x:Operand} {q:Tmp} {pos:String} {af:Array Edge} {a:Act} {w:World} {Q:Exit->Act->World->Prop} (b o:Nat) (cs:List Value) (d:TypeDesc) (hx:a.eval x=.pointer (some ⟨b,o,none⟩)) (hc:w.rangeAt b o cs)
 (hu:P.underlying ty=some d) (hd:d.isRow=true) (hi:(P.info? ty).map (·.size)=some cs.length)
 (h:wpList P ops Q rest (a.put (some q) (.agg cs.toArray)) w):wpList P ops Q ({ dst:=some q,op:=.load ty x,type:=t,pos:=pos,after:=af,guard:=none }::rest) a w :=
 wpList_load_mid rfl ty x rfl b o hx cs d hc hu hd hi h
theorem results_one {fn:Func} {p:Tmp} {t:TypeId} (h:fn.results= #[.cell p t]) (tmps:Array Value) (P:Program) (w:World) (a:Addr) (x:Value)
 (ha:tmps.getD p undef=.pointer (some a)) (hx:(loadVar t a).run P w=.ok x w):(results fn tmps).run P w=.ok x w:=by
 simp only [results,h]
 have e1: ∀ W:World,(asAddr (Value.pointer (some a))).run P W=.ok a W:=fun _=>rfl
 simp at ha
 simp [Sem.run_bind,Result.andThen,ha,e1,hx]
theorem below_put {w W:World} {b:Nat} (h:bc w W) (hb:w.heap.size<=b) (vs:List Value):bc w (W.setCells b 0 vs):=by
 have g:=Qu.grown_setCells b vs 0 W
 exact h.trans ⟨g.os,g.tape,g.output,g.size,fun j hj=>g.block j (nla hj h.size) (fun e=>by have:=sia e;omega)⟩
theorem below_drew {n:Nat} {w W:World} (h:Below n w W):Below n w W.drew:=⟨h.os,h.tape,h.output,h.size,h.block⟩
theorem get_any (h:Pu X W m s) (box f i:Int) (hf:m.has f=true) (i0:0<=i) (i1:i<512) :
 Calls Tryz.prog 139 #[pv m box,.int .i64 f,.int .i64 i] W (re (unp (En s.M f i)) W):=by
 have b:=h.so.hb f hf
 have f1:=h.so.F1
 have AD:Hid (∀ w:World,Calls Tryz.prog 51 #[.int .i64 f,.int .i64 i] w fun e w'=>e=.returned (.int .u64 (f*4096+i*8))/\w'=w):=fun w=>addr_any f i b.1 (by omega) i0 i1 w
 have LC:Hid (∀ w:World,bc W w->Calls Tryz.prog 40 #[pp m.rb,.int .u64 (f*4096+i*8),.int .i64 8] w (re (.tuple #[.int .u64 (En s.M f i),.int .i64 0]) w)):=fun w hb=>((h.below hb).load f i hf i0 i1).mono (fun e w' ⟨he,hg⟩=>⟨he,grown_below hg⟩)
 have eb:=en_bd h.byte f i
 have UC:Hid (∀ w:World,bc W w->Calls Tryz.prog 112 #[.int .u64 (En s.M f i)] w (re (unp (En s.M f i)) w)):=fun w hb=>unpack_any (En s.M f i) eb.1 eb.2 w (h.below hb).tab
 generalize hx:En s.M f i=x at LC UC |-
 generalize ha:f*4096+i*8=a at AD LC
 obtain ⟨b0,b1,b2,b3,b4,b5,b6,b7,fr,hv⟩: ∃ b0 b1 b2 b3 b4 b5 b6 b7 fr,unp x=.agg (sd b0 b1 b2 b3 b4 b5 b6 b7 fr):=⟨_,_,_,_,_,_,_,_,_,rfl⟩
 rw [hv] at UC |-
 clear h b f1 eb hx ha hv hf i0 i1
 obtain ⟨rb,bb,tb,has,F⟩:=m
 simp only at LC
 have HB:Hid (bc W ((W.alloc (.cells #[pp rb,pp bb,pp tb,.int .i64 box] 66)).alloc (.cells sg1 98))):=below_then baa baa
 have BA:Hid (Blk ((W.alloc (.cells #[pp rb,pp bb,pp tb,.int .i64 box] 66)).alloc (.cells sg1 98)) W.heap.size [pp rb,pp bb,pp tb,.int .i64 box] 66):=(Blk.made W [pp rb,pp bb,pp tb,.int .i64 box] 66).below baa
 have BR:Hid (Blk ((W.alloc (.cells #[pp rb,pp bb,pp tb,.int .i64 box] 66)).alloc (.cells sg1 98)) (W.heap.size+1) sh1 98):=by
  have s1:(W.alloc (.cells #[pp rb,pp bb,pp tb,.int .i64 box] 66)).heap.size=W.heap.size+1:=World.size_alloc _ _
  rw [<- s1]
  exact Blk.made _ sh1 98
 have HR:Hid (W.heap.size<=W.heap.size+1):=Nat.le_succ _
 go_enter Tryz.func139,Tryz.ntmps139
 go_upto_region 1 with fail
 generalize (W.alloc (.cells #[pp rb,pp bb,pp tb,.int .i64 box] 66)).alloc (.cells sg1 98)=W2 at HB BA BR |-
 generalize hR:W.heap.size+1=R at BR HR |-
 generalize hA:W.heap.size=A at BA |-
 clear hR hA
 refine hda (fun c=>Blk c A [pp rb,pp bb,pp tb,.int .i64 box] 66) BA.out fun hHeld=> ?_
 have BU:Hid (bc W W2.drew):=below_drew HB.out
 clear HB
 change Hid (Blk W2.drew A [pp rb,pp bb,pp tb,.int .i64 box] 66) at BA
 change Hid (Blk W2.drew R sh1 98) at BR
 generalize W2.drew=U at hHeld BU BA BR |-
 refine tma 0 10 rfl ?_
 refine tla 1 11 ((.pointer (some ⟨rb,0,none⟩))) rfl ?_ ?_
 . intro w hSw;(try dsimp only at hSw);have r:=(Blk.cell hSw 0);(try go_simp);(try simp [*])
 refine tma 2 12 rfl ?_
 refine tma 3 13 rfl ?_
 refine rda 4 ⟨some 14,_,_,_,_,none⟩ rfl fun K hK=> ?_
 go_simp
 go_wp2_with (go_at_call 51;refine Calls.mono (AD.out _) ?_;rintro e w1 ⟨rfl,hw⟩)
 subst hw
 refine hK.out _ _ hHeld ?_
 clear hK K hHeld
 intro hHeld
 try simp only [Act.put,zaa,zba,zca]
 refine rda 5 ⟨some 15,_,_,_,_,none⟩ rfl fun K hK=> ?_
 go_simp
 go_wp2_with (go_at_call 40;refine Calls.mono (LC.out _ BU.out) ?_;rintro e u2 ⟨rfl,hb2⟩)
 have BU2:Hid (bc W u2):=below_then BU.out hb2
 have BR2:Hid (Blk u2 R sh1 98):=BR.out.below hb2
 refine hK.out _ _ (hHeld.below hb2) ?_
 clear hK K hHeld hb2 BU BR BA
 intro hHeld
 try simp only [Act.put,zaa,zba,zca]
 refine tma 6 9 rfl ?_
 refine tma 7 16 rfl ?_
 refine tma 8 17 rfl ?_
 refine tma 9 7 rfl ?_
 refine tma 10 8 rfl ?_
 clear hHeld
 refine wpAnyH_done ka ?_ _
 refine NoPanic.normal ?_
 go_wp2_with fail
 refine Calls.mono (UC.out _ BU2.out) ?_
 rintro e u3 ⟨rfl,hb3⟩
 have BU3:Hid (bc W u3):=below_then BU2.out hb3
 have BR3:Hid (Blk u3 R sh1 98):=BR2.out.below hb3
 clear hb3 BU2 BR2 LC UC AD
 have F1:Hid (Blk (u3.setCells R 0 (sh b0 b1 b2 b3 b4 b5 b6 b7 fr)) R (sh b0 b1 b2 b3 b4 b5 b6 b7 fr) 98/\bc W (u3.setCells R 0 (sh b0 b1 b2 b3 b4 b5 b6 b7 fr))):=⟨BR3.out.put rfl,below_put BU3.out HR.out _⟩
 go_wp2_with (refine store_pat R 0 (sd b0 b1 b2 b3 b4 b5 b6 b7 fr) ?hx ?hy ?ht ?hi ?h1 ?rest;(case hx=>rfl);(case hy=>rfl);(case ht=>exact BR3.out.there);(case hi=>kernel_rfl);(case h1=>simp [Value.oneCell']);(try simp only [List.toList_toArray]);generalize u3.setCells R 0 (sh b0 b1 b2 b3 b4 b5 b6 b7 fr)=V at F1 |-)
 refine bodyPost_ret (v:=.agg (sd b0 b1 b2 b3 b4 b5 b6 b7 fr)) (results_one Tryz.results139 _ _ _ _ _ rfl (run_loadVar_mid (P:=Tryz.prog) _ R 0 98 (sh b0 b1 b2 b3 b4 b5 b6 b7 fr) _ F1.out.1.range Tryz.underlying98 rfl ka)) rfl ?_
 exact ⟨rfl,F1.out.2⟩
abbrev Kn (W w w':World):Prop:= ∀ j,W.heap.size<=j->j<w.heap.size->w'.heap[j]? =w.heap[j]?
theorem kn_of {X:Nat->Prop} {W w w':World} (k:Kx (fun j=>X j\/(W.heap.size<=j/\j<w.heap.size)) w w'):Kn W w w':=fun j h1 h2=>k.block j (Or.inr ⟨h1,h2⟩)
theorem kx_of {X:Nat->Prop} {W w w':World} {m:Pm} {s:Ps} (h:Pu X W m s) (hb:bc W w) (k:Kx (fun j=>X j\/(W.heap.size<=j/\j<w.heap.size)) w w'):Kx X W w':=(Kx.of_below h hb).trans (k.sub (fun j hj=>Or.inl hj))
theorem Pu.x0 (h:Pu X W m s):X 0:=by obtain ⟨K,Z,S,h⟩:=h;exact h.x0
theorem pu_of {X:Nat->Prop} {W w w':World} {m:Pm} {s s':Ps} (h:Pu X W m s) (k:Pu (fun j=>X j\/(W.heap.size<=j/\j<w.heap.size)) w' m s'):Pu X w' m s':=k.less (fun j hj=>Or.inl hj) h.x0
theorem pack_bd (p r u a d l g n:Bool) (f:Int) (f0:0<=f) (f1:f<1048576):0<=packV p r u a d l g n f/\packV p r u a d l g n f<18446744073709551616:=by
 unfold packV
 have h0:=fl_bd p 1 (by omega);have h1:=fl_bd r 2 (by omega);have h2:=fl_bd u 4 (by omega);have h3:=fl_bd a 32 (by omega)
 have h4:=fl_bd d 64 (by omega);have h5:=fl_bd l 128 (by omega);have h6:=fl_bd g 256 (by omega);have h7:=fl_bd n 9223372036854775808 (by omega)
 omega
theorem set_any (h:Pu X W m s) (hq:s.q<4611686018427387904) (box f i:Int) (hf:m.has f=true) (i0:0<=i) (i1:i<512) (p r u a d l g n:Bool) (fr:Int) (r0:0<=fr) (r1:fr<1048576) :
 Calls Tryz.prog 24 #[pv m box,.int .i64 f,.int .i64 i,ev p r u a d l g n fr] W fun e w'=>e=.returned (.tuple #[])/\Pu X w' m { s with M:=enSet s.M f i (packV p r u a d l g n fr),q:=s.q+2 }/\Kx X W w':=by
 have b:=h.so.hb f hf
 have f1:=h.so.F1
 have AD:Hid (∀ w:World,Calls Tryz.prog 51 #[.int .i64 f,.int .i64 i] w fun e w'=>e=.returned (.int .u64 (f*4096+i*8))/\w'=w):=fun w=>addr_any f i b.1 (by omega) i0 i1 w
 have pb:=pack_bd p r u a d l g n fr r0 r1
 have PC:Hid (∀ w:World,bc W w->Calls Tryz.prog 50 #[ev p r u a d l g n fr] w (re (.tuple #[.int .u64 (packV p r u a d l g n fr),.int .i64 0]) w)):=fun w hb=>pack_ok p r u a d l g n fr r0 r1 w (h.below hb).tab
 have SC:Hid (∀ w:World,bc W w->Calls Tryz.prog 39 #[pp m.rb,.int .u64 (f*4096+i*8),.int .i64 8,.int .u64 (packV p r u a d l g n fr)] w fun e w'=>e=.returned (.int .i64 0)/\Pu X w' m { s with M:=enSet s.M f i (packV p r u a d l g n fr),q:=s.q+2 }/\Kx X W w'/\Kn W w w'):=fun w hb=>((h.grow hb).store hq f i _ hf i0 i1 pb.1 pb.2).mono (fun e w' ⟨he,hp,hk⟩=>⟨he,pu_of h hp,kx_of h hb hk,kn_of hk⟩)
 generalize packV p r u a d l g n fr=x at PC SC pb |-
 generalize ha:f*4096+i*8=ad at AD SC
 obtain ⟨s',hs'⟩: ∃ s',s'=({ s with M:=enSet s.M f i x,q:=s.q+2 }:Ps):=⟨_,rfl⟩
 rw [<- hs'] at SC |-
 clear h b f1 ha hf i0 i1 hs' pb hq r0 r1
 obtain ⟨m0,hm0⟩: ∃ m0,m0=m:=⟨_,rfl⟩
 rw [<- hm0] at SC |-
 obtain ⟨rb,bb,tb,has,F⟩:=m
 have em:m0.rb=rb/\m0.b=bb/\m0.tb=tb:=by rw [hm0];exact ⟨rfl,rfl,rfl⟩
 rw [em.1] at SC
 show Calls Tryz.prog 24 #[.agg #[pp m0.rb,pp m0.b,pp m0.tb,.int .i64 box],.int .i64 f,.int .i64 i,ev p r u a d l g n fr] W _
 rw [em.1,em.2.1,em.2.2]
 clear em hm0
 have HB:Hid (bc W ((W.alloc (.cells #[pp rb,pp bb,pp tb,.int .i64 box] 66)).alloc (.cells (sd p r u a d l g n fr) 98))):=below_then baa baa
 have BA:Hid (Blk ((W.alloc (.cells #[pp rb,pp bb,pp tb,.int .i64 box] 66)).alloc (.cells (sd p r u a d l g n fr) 98)) W.heap.size [pp rb,pp bb,pp tb,.int .i64 box] 66):=(Blk.made W [pp rb,pp bb,pp tb,.int .i64 box] 66).below baa
 have BR:Hid (Blk ((W.alloc (.cells #[pp rb,pp bb,pp tb,.int .i64 box] 66)).alloc (.cells (sd p r u a d l g n fr) 98)) (W.heap.size+1) (sh p r u a d l g n fr) 98):=by
  have s1:(W.alloc (.cells #[pp rb,pp bb,pp tb,.int .i64 box] 66)).heap.size=W.heap.size+1:=World.size_alloc _ _
  rw [<- s1]
  exact Blk.made _ (sh p r u a d l g n fr) 98
 have AW:Hid (W.heap.size<=W.heap.size):=Nat.le_refl _
 go_enter Tryz.func24,Tryz.ntmps24
 go_upto_region 1 with fail
 generalize (W.alloc (.cells #[pp rb,pp bb,pp tb,.int .i64 box] 66)).alloc (.cells (sd p r u a d l g n fr) 98)=W2 at HB BA BR |-
 generalize hR:W.heap.size+1=R at BR |-
 obtain ⟨A,hA⟩: ∃ A,W.heap.size=A:=⟨_,rfl⟩
 have AW:Hid (W.heap.size<=A):=by show _<=_;omega
 rw [hA] at BA |-
 clear hR hA
 have c0:W2.cell? ⟨R,0,none⟩=some (.bool p):=BR.out.cell 0
 have c1:W2.cell? ⟨R,1,none⟩=some (.bool r):=BR.out.cell 1
 have c2:W2.cell? ⟨R,2,none⟩=some (.bool u):=BR.out.cell 2
 have c3:W2.cell? ⟨R,3,none⟩=some (.bool a):=BR.out.cell 3
 have c4:W2.cell? ⟨R,4,none⟩=some (.bool d):=BR.out.cell 4
 have c5:W2.cell? ⟨R,5,none⟩=some (.bool l):=BR.out.cell 5
 have c6:W2.cell? ⟨R,6,none⟩=some (.bool g):=BR.out.cell 6
 have c7:W2.cell? ⟨R,7,none⟩=some (.bool n):=BR.out.cell 7
 have c8:W2.cell? ⟨R,8,none⟩=some (.int .i64 fr):=BR.out.cell 8
 go_wp2_with fail
 clear c0 c1 c2 c3 c4 c5 c6 c7 c8
 refine Calls.mono (PC.out _ HB.out) ?_
 rintro e w1 ⟨rfl,hb1⟩
 have BU1:Hid (bc W w1):=below_then HB.out hb1
 have BA1:Hid (Blk w1 A [pp rb,pp bb,pp tb,.int .i64 box] 66):=BA.out.below hb1
 clear hb1 HB BA BR
 have BA:=BA1
 clear BA1
 go_upto_region 2 with fail
 refine hda (fun c=>Blk c A [pp rb,pp bb,pp tb,.int .i64 box] 66) BA.out fun hHeld=> ?_
 have BU:Hid (bc W w1.drew):=below_drew BU1.out
 clear BU1
 change Hid (Blk w1.drew A [pp rb,pp bb,pp tb,.int .i64 box] 66) at BA
 generalize w1.drew=U at hHeld BU BA |-
 refine tma 0 15 rfl ?_
 refine tla 1 16 ((.pointer (some ⟨rb,0,none⟩))) rfl ?_ ?_
 . intro w hSw;(try dsimp only at hSw);have r:=(Blk.cell hSw 0);(try go_simp);(try simp [*])
 refine tma 2 17 rfl ?_
 refine tma 3 18 rfl ?_
 refine tma 5 20 rfl ?_
 refine rda 4 ⟨some 19,_,_,_,_,none⟩ rfl fun K hK=> ?_
 go_simp
 go_wp2_with (go_at_call 51;refine Calls.mono (AD.out _) ?_;rintro e u1 ⟨rfl,hw⟩)
 subst hw
 refine hK.out _ _ hHeld ?_
 clear hK K hHeld
 intro hHeld
 try simp only [Act.put,zaa,zba,zca]
 refine rda 6 ⟨some 21,_,_,_,_,none⟩ rfl fun K hK=> ?_
 go_simp
 go_wp2_with (go_at_call 39;refine Calls.mono (SC.out _ BU.out) ?_;rintro e u2 ⟨rfl,hp,hk,hn⟩)
 have E2:Hid (Pu X u2 m0 s'/\Kx X W u2):=⟨hp,hk⟩
 refine hK.out _ _ ((hn A AW.out hHeld.lt).trans hHeld) ?_
 clear hK K hHeld hp hk hn BU BA
 intro hHeld
 try simp only [Act.put,zaa,zba,zca]
 clear hHeld
 refine wpAnyH_done ka ?_ _
 refine NoPanic.normal ?_
 go_wp2_with fail
 go_returns
 exact ⟨rfl,E2.out⟩
theorem ok_put {T:Nat->Qu.Nd} (h:Qu.OkT T) (k:Nat) {l:Qu.Nd} (hl:l.ok):Qu.OkT (Qu.putT T k l):=fun j hj=>by
 by_cases c:j=k
 . subst c;rw [Qu.put_same];exact hl
 . rw [Qu.put_other _ _ _ _ c];exact h j hj
theorem ok_charge {T:Nat->Qu.Nd} (h:Qu.OkT T) (i n:Int):Qu.OkT (Qu.chargeT T i n):=by
 unfold Qu.chargeT
 by_cases c:Qu.mayN T i n=0
 . rw [if_pos c]
   obtain ⟨m1,m2,m3⟩:=Qu.may_zero c
   obtain ⟨k,rfl,hk,hg⟩:=Qu.live_in m1
   rw [hg] at m3
   rw [Int.toNat_natCast]
   have o:=h k hk
   refine ok_put h k ?_
   unfold Qu.Nd.room at m3
   obtain ⟨a,b,c,d,e,f⟩:=o
   exact ⟨a,b,by show 0<=(T k).used+n;omega,by show (T k).used+n<=1048576;omega,e,f⟩
 . rw [if_neg c];exact h
def usedT (T:Nat->Qu.Nd) (k:Nat) (n:Int):Nat->Qu.Nd:=Qu.putT T k ((T k).plus n)
theorem used_zero (T:Nat->Qu.Nd) (k:Nat):usedT T k 0=T:=by
 funext j
 unfold usedT
 by_cases c:j=k
 . subst c;rw [Qu.put_same];show Qu.Nd.mk _ _ (_+0) _ _=_;rw [Int.add_zero]
 . rw [Qu.put_other _ _ _ _ c]
theorem used_at (T:Nat->Qu.Nd) (k:Nat) (n:Int):usedT T k n k=(T k).plus n:=Qu.put_same _ _ _
theorem used_used (T:Nat->Qu.Nd) (k:Nat) (n n':Int):Qu.putT (usedT T k n) k ((usedT T k n k).plus n')=usedT T k (n+n'):=by
 rw [used_at]
 funext j
 unfold usedT
 by_cases c:j=k
 . subst c;rw [Qu.put_same,Qu.put_same];show Qu.Nd.mk _ _ (_+_+_) _ _=Qu.Nd.mk _ _ (_+(_+_)) _ _;rw [Int.add_assoc];rfl
 . rw [Qu.put_other _ _ _ _ c,Qu.put_other _ _ _ _ c,Qu.put_other _ _ _ _ c]
theorem used_charge {T:Nat->Qu.Nd} {k:Nat} (hk:k<64) {n:Int} (hl:(T k).live=true) (h:n+1<=(T k).room):Qu.mayN (usedT T k n) k 1=0/\Qu.chargeT (usedT T k n) k 1=usedT T k (n+1):=by
 have g:Qu.getN (usedT T k n) k=(T k).plus n:=by
  unfold Qu.getN;rw [if_pos ⟨by omega,by omega⟩,Int.toNat_natCast,used_at]
 have m:Qu.mayN (usedT T k n) k 1=0:=by
  unfold Qu.mayN
  rw [g,if_neg (by show ¬ (T k).live=false;rw [hl];simp),if_neg (by omega),if_neg]
  show ¬ (T k).quota-((T k).used+n)-(T k).lent<1
  unfold Qu.Nd.room at h
  omega
 refine ⟨m,?_⟩
 unfold Qu.chargeT
 rw [if_pos m,Int.toNat_natCast,used_used]
def takeS (s:Ps) (k:Nat) (L:List Nat):Ps:={ s with Fr:=fun i=>s.Fr i/\i∉L,G:=fun x=>if 0<=x/\x.toNat∈L then some 0 else s.G x,T:=usedT s.T k L.length }
theorem take_nil (s:Ps) (k:Nat):takeS s k []=s:=by
 unfold takeS
 obtain ⟨M,Fr,G,T,q⟩:=s
 simp only [Ps.mk.injEq,true_and,and_true]
 refine ⟨?_,?_,?_⟩
 . funext i;simp
 . funext x;simp
 . exact used_zero T k
structure Box (m:Pm) (s:Ps) (k:Nat):Prop where
 k6:k<64
 live:(s.T k).live=true
 room:(s.T k).room<=(Bd.cnt s.Fr 1048576:Nat)\/10<=Bd.cnt s.Fr 1048576
theorem cnt_out {F:Nat->Prop} (hF: ∀ i,F i->i<1000000): ∀ L:List Nat,L.Nodup->(∀ p∈L,F p)->Bd.cnt (fun i=>F i/\i∉L) 1048576+L.length=Bd.cnt F 1048576
 | [], _, _ => by simp
 | p :: L, nd, hp => by
  have ih:=cnt_out hF L (List.nodup_cons.1 nd).2 (fun q hq=>hp q (List.mem_cons_of_mem _ hq))
  have e:=Bd.cnt_sub (fun i=>F i/\i∉L) (fun i=>i=p) (fun i hi=>by subst hi;exact ⟨hp i List.mem_cons_self,(List.nodup_cons.1 nd).1⟩) 1048576
  have e1:Bd.cnt (fun i=>i=p) 1048576=1:=by
   have b:=Bd.cnt_blk (o:=0) (q:=p) (M:=1048576) (by have:=hF p (hp p List.mem_cons_self);simp;omega)
   simpa using b
  have e2:(fun i=>(F i/\i∉L)/\ ¬ i=p)=(fun i=>F i/\i∉p::L):=by
   funext i;apply propext
   simp only [List.mem_cons,not_or]
   exact ⟨fun ⟨⟨a,b⟩,c⟩=>⟨a,c,b⟩,fun ⟨a,c,b⟩=>⟨⟨a,b⟩,c⟩⟩
  rw [e2,e1] at e
  rw [List.length_cons]
  omega
theorem Box.some {m:Pm} {s:Ps} {k:Nat} (b:Box m s k) (so:Sound m s) {L:List Nat} (nd:L.Nodup) (hL: ∀ p∈L,s.Fr p) (h:(L.length:Int)+1<=(s.T k).room) (h10:L.length+1<=10): ∃ i,s.Fr i/\i∉L:=by
 have e:=cnt_out so.frb L nd hL
 have r:=b.room
 exact Bd.cnt_some (F:=fun i=>s.Fr i/\i∉L) (n:=1048576) (by omega)
theorem take_snoc (s:Ps) (k:Nat) (L:List Nat) (p:Nat):({ takeS s k L with Fr:=fun i=>(takeS s k L).Fr i/\i≠p,G:=Bd.setF (takeS s k L).G p (Option.some 0),T:=usedT s.T k (L.length+1:Int) }:Ps)=takeS s k (L++[p]):=by
 unfold takeS
 simp only [Ps.mk.injEq,true_and,and_true]
 refine ⟨?_,?_,?_⟩
 . funext i;apply propext;simp [and_assoc]
 . funext x
   by_cases c:x=(p:Int)
   . subst c;rw [Bd.set_same,if_pos ⟨by omega,by simp⟩]
   . rw [Bd.set_other _ _ _ _ c]
     have:(0<=x/\x.toNat∈L++[p])↔(0<=x/\x.toNat∈L):=by
      simp only [List.mem_append,List.mem_singleton]
      constructor
      . rintro ⟨a,b | b⟩
        . exact ⟨a,b⟩
        . omega
      . rintro ⟨a,b⟩;exact ⟨a,Or.inl b⟩
     simp only [this]
 . congr 1;simp
abbrev XW (X:Nat->Prop) (W w:World):Nat->Prop:=fun j=>X j\/(W.heap.size<=j/\j<w.heap.size)
theorem xw_last (X:Nat->Prop) (W:World) (o:Obj):XW X W (W.alloc o) W.heap.size:=Or.inr ⟨Nat.le_refl _,by rw [World.size_alloc];omega⟩
theorem reserve_yes (h:Pu X W m s) (k:Nat) (hz:Qu.mayN s.T k 1=0) (hs: ∃ i,s.Fr i) :
 Calls Tryz.prog 87 #[pv m k] W fun e w'=> ∃ p:Nat,e=.returned (.tuple #[.int .i64 p,.int .i64 0])/\s.Fr p/\Pu X w' m { s with Fr:=fun i=>s.Fr i/\i≠p,G:=Bd.setF s.G p (some 0),T:=Qu.chargeT s.T k 1 }/\Kx X W w':=by
 have hb0:bc W (W.alloc (.cells (pc m k) 66)):=baa
 obtain ⟨X2,hX2⟩: ∃ X2:Nat->Prop,X2=XW X W (W.alloc (.cells (pc m k) 66)):=⟨_,rfl⟩
 have xl:X2 W.heap.size:=by rw [hX2];exact xw_last X W _
 have P0:Pu X2 (W.alloc (.cells (pc m k) 66)) m s:=by rw [hX2];exact h.grow hb0
 have bm:=Blk.made W [pp m.rb,pp m.b,pp m.tb,.int .i64 k] 66
 have CC:Hid (Calls Tryz.prog 105 (sf (pp m.tb) k 1) (W.alloc (.cells (pc m k) 66)) fun e w'=>e=.returned (.int .i64 0)/\Pu X2 w' m { s with T:=Qu.chargeT s.T k 1 }/\Kx X2 (W.alloc (.cells (pc m k) 66)) w'/\Blk w' W.heap.size [pp m.rb,pp m.b,pp m.tb,.int .i64 k] 66):=by
  refine (P0.charge k 1 (ok_charge h.so.ok k 1)).mono ?_
  rintro e w' ⟨he,hp,hk⟩
  rw [hz] at he
  exact ⟨he,hp,hk,bm.kx hk xl⟩
 have TC:Hid (∀ w:World,Pu X2 w m { s with T:=Qu.chargeT s.T k 1 }->Kx X2 (W.alloc (.cells (pc m k) 66)) w->Blk w W.heap.size [pp m.rb,pp m.b,pp m.tb,.int .i64 k] 66->Calls Tryz.prog 106 #[pp m.b,.int .i64 0] w fun e w'=> ∃ p:Nat,e=.returned (.tuple #[.int .i64 p,.int .i64 0])/\s.Fr p/\Pu X2 w' m { s with Fr:=fun i=>s.Fr i/\i≠p,G:=Bd.setF s.G p (some 0),T:=Qu.chargeT s.T k 1 }/\Kx X2 (W.alloc (.cells (pc m k) 66)) w'/\Blk w' W.heap.size [pp m.rb,pp m.b,pp m.tb,.int .i64 k] 66):=fun w hp hk hB=>by
  refine (hp.take hs).mono ?_
  rintro e w' ⟨p,he,hF,hp2,hk2⟩
  exact ⟨p,he,hF,hp2,hk.trans hk2,hB.kx hk2 xl⟩
 have HC:Hid (∀ (w:World) (p:Nat),s.Fr p->Pu X2 w m { s with Fr:=fun i=>s.Fr i/\i≠p,G:=Bd.setF s.G p (some 0),T:=Qu.chargeT s.T k 1 }->Kx X2 (W.alloc (.cells (pc m k) 66)) w->Calls Tryz.prog 62 #[pp m.rb,.int .i64 p] w fun e w'=>e=.returned (.bool true)/\Pu X w' m { s with Fr:=fun i=>s.Fr i/\i≠p,G:=Bd.setF s.G p (some 0),T:=Qu.chargeT s.T k 1 }/\Kx X W w'):=fun w p hF hp hk=>by
  refine (hp.hasc p).mono ?_
  rintro e w' ⟨he,hg⟩
  rw [h.so.fh p hF] at he
  have k2:=hk.trans (Kx.of_grown hp hg)
  have p2:=hp.grown hg
  rw [hX2] at k2 p2
  exact ⟨he,pu_of h p2,kx_of h hb0 k2⟩
 clear h hb0 P0 bm hz hs xl hX2
 obtain ⟨m0,hm0⟩: ∃ m0,m0=m:=⟨_,rfl⟩
 obtain ⟨rb,bb,tb,has,F⟩:=m
 simp only at CC TC HC
 rw [<- hm0] at CC TC HC |-
 rw [show pv m0 k=.agg #[pp rb,pp bb,pp tb,.int .i64 k] by rw [hm0]]
 rw [show pc m0 k= #[pp rb,pp bb,pp tb,.int .i64 k] by rw [hm0]] at CC TC HC
 clear hm0
 go_enter Tryz.func87,Tryz.ntmps87
 go_wp2_with fail
 refine Calls.mono CC.out ?_
 rintro e w1 ⟨rfl,hp1,hk1,hB1⟩
 have T1:Hid (_):=TC.out w1 hp1 hk1 hB1
 have c1:w1.cell? ⟨W.heap.size,1,none⟩=some (pp bb):=hB1.cell 1
 have ls:=hB1.lt
 clear hp1 hk1 hB1 CC TC
 go_wp2_with fail
 refine Calls.mono T1.out ?_
 rintro e w2 ⟨p,rfl,hF,hp2,hk2,hB2⟩
 have T2:Hid (_):=HC.out w2 p hF hp2 hk2
 have HF:Hid (s.Fr p):=hF
 have c0:w2.cell? ⟨W.heap.size,0,none⟩=some (pp rb):=hB2.cell 0
 have ls2:=hB2.lt
 clear hF hp2 hk2 hB2 T1 HC c1 ls
 go_wp2_with fail
 refine Calls.mono T2.out ?_
 rintro e w3 ⟨rfl,hp3⟩
 obtain ⟨s3,hs3⟩: ∃ s3:Ps,s3={ s with Fr:=fun i=>s.Fr i/\i≠p,G:=Bd.setF s.G p (some 0),T:=Qu.chargeT s.T k 1 }:=⟨_,rfl⟩
 have H3:Hid (Pu X w3 m0 { s with Fr:=fun i=>s.Fr i/\i≠p,G:=Bd.setF s.G p (some 0),T:=Qu.chargeT s.T k 1 }/\Kx X W w3):=hp3
 clear hp3 T2
 go_wp2_with fail
 go_returns
 exact ⟨p,rfl,HF.out,H3.out⟩
theorem reserve_more {k:Nat} {L:List Nat} (h:Pu X W m (takeS s k L)) (so:Sound m s) (b:Box m s k) (nd:L.Nodup) (hL: ∀ p∈L,s.Fr p) (hr:(L.length:Int)+1<=(s.T k).room) (h10:L.length+1<=10) :
 Calls Tryz.prog 87 #[pv m k] W fun e w'=> ∃ p:Nat,e=.returned (.tuple #[.int .i64 p,.int .i64 0])/\s.Fr p/\p∉L/\Pu X w' m (takeS s k (L++[p]))/\Kx X W w':=by
 obtain ⟨c1,c2⟩:=used_charge b.k6 b.live hr
 refine (reserve_yes h k c1 (b.some so nd hL hr h10)).mono ?_
 rintro e w' ⟨p,he,hF,hp,hk⟩
 refine ⟨p,he,hF.1,hF.2,?_,hk⟩
 rw [<- take_snoc]
 rw [show Qu.chargeT (takeS s k L).T k 1=usedT s.T k (L.length+1:Int) from c2] at hp
 exact hp
end
end Go.Proofs.YtgbdnnkkcpkhdaaGreatDoor.Tt
namespace Go.Proofs.YtgbdnnkkcpkhdaaGreatDoor.Tt
open Go.Proofs.YtgbdnnkkcpkhdaaGreatDoor.Li (wpList_app)
abbrev ints (L:List Nat):List Int:=L.map (fun p:Nat=>(p:Int))
structure TI (X:Nat->Prop) (W0:World) (A:Nat) (m:Pm) (k:Nat) (st:Ps) (L:List Nat) (v:Value) (w:World):Prop where
 pu:Pu (fun x=>X x\/x=A\/v.ownBlock=some x) w m st
 box:Blk w A [pp m.rb,pp m.b,pp m.tb,.int .i64 k] 66
 own:Li.OI w W0.heap.size v (ints L)
 kx:Kx X W0 w
 ne:v.ownBlock≠some A
 pos:0<W0.heap.size
 x0:X 0
 xl: ∀ j,X j->j<W0.heap.size
theorem TI.step {X:Nat->Prop} {W0 w w':World} {A k:Nat} {m:Pm} {st st':Ps} {L:List Nat} {v:Value} (H:TI X W0 A m k st L v w) (hp:Pu (fun x=>X x\/x=A\/v.ownBlock=some x) w' m st') (hk:Kx (fun x=>X x\/x=A\/v.ownBlock=some x) w w'):TI X W0 A m k st' L v w' :=
 ⟨hp,H.box.kx hk (Or.inr (Or.inl rfl)),Li.row_keep H.own (fun g e=>hk.block g (Or.inr (Or.inr e))),H.kx.trans (hk.sub (fun j hj=>Or.inl hj)),H.ne,H.pos,H.x0,H.xl⟩
theorem TI.form {X:Nat->Prop} {W0 w:World} {A k:Nat} {m:Pm} {st:Ps} {L:List Nat} {v:Value} (H:TI X W0 A m k st L v w): ∃ p c,v=.slice p L.length c:=by
 obtain ⟨p,c,hv,_⟩:=(Li.ol_ll Li.eI_len H.own).form
 rw [List.length_map] at hv
 exact ⟨p,c,hv⟩
theorem ii_read {w:World} {base:Nat} {L:List Nat} {p:Option Addr} {n c:Nat} (H:Li.OI w base (.slice p n c) (ints L)) (i:Nat) (hi:i<L.length): ∃ g,p=some ⟨g,0,none⟩/\g<w.heap.size/\w.cell? ⟨g,i,none⟩=some (.int .i64 (L[i]:Nat)):=by
 have hc:=fun g (hg:(Value.slice p n c).ownBlock=some g)=>World.ownsRow.cells (g:=g) H hg
 obtain ⟨_,⟨hv,h0⟩ | ⟨g,cap,cur,hv,hb,hblk,_⟩⟩:=H
 . rw [List.length_map] at h0;omega
 . cases hv
   refine ⟨g,rfl,blk_lt hblk,?_⟩
   have:=hc g rfl i (.int .i64 (L[i]:Nat)) (by
    rw [show (ints L).flatMap Li.eI=(ints L).map (Value.int .i64) by
     unfold Li.eI
     induction ints L with
     | nil => rfl
     | cons a l ih => rw [List.flatMap_cons, ih]; rfl]
    simp [ints,List.getElem?_map,List.getElem?_eq_getElem hi])
   rw [Addr.add_mid,Nat.zero_add] at this
   exact this
theorem TI.app {X:Nat->Prop} {W0 w:World} {A k:Nat} {m:Pm} {st:Ps} {L:List Nat} {v:Value} (H:TI X W0 A m k st L v w) (hL:L.length<=1000) (p:Nat) :
 ∃ v' W2,(Builtin.append_ #[22,22] 22 #[v,.slice (some ⟨w.heap.size,0,none⟩) 1 1]).run Tryz.prog (w.alloc (.cells #[.int .i64 p] 3))=.ok v' W2/\TI X W0 A m k st (L++[p]) v' W2:=by
 obtain ⟨v',W2,r,ho,hg,hat⟩:=Li.app_row Li.eI_len Li.eI_one (by decide) Tryz.underlying22 Li.infoI rfl (by decide) W0.heap.size v (ints L) (p:Int) (by rw [List.length_map];omega) w H.own H.kx.size
 have s1:(w.alloc (.cells (Li.eI p).toArray 3)).heap.size=w.heap.size+1:=World.size_alloc _ _
 have b1:bc w (w.alloc (.cells (Li.eI p).toArray 3)):=baa
 have vb: ∀ g,v.ownBlock=some g->W0.heap.size<=g:=fun g e=>(Li.row_lt H.own g e).1
 have same: ∀ j,j<w.heap.size->v.ownBlock≠some j->W2.heap[j]? =w.heap[j]? :=fun j hj ne=>(hg.block j (by rw [s1];omega) (fun e=>ne e.symm)).trans (b1.block j hj)
 have sz:w.heap.size<=W2.heap.size:=Nat.le_trans b1.size hg.size
 refine ⟨v',W2,r,?_,?_,?_,?_,?_,H.pos,H.x0,H.xl⟩
 . have q:=H.pu.other sz (fun j hj nx=>same j hj (fun e=>nx (Or.inr (Or.inr e)))) (same 0 H.pu.tab.1 (fun e=>by have:=vb 0 e;have:=H.pos;omega))
   refine q.less (fun j hj=> ?_) (Or.inl H.x0)
   rcases hj with h | h | h
   . exact Or.inl (Or.inl h)
   . exact Or.inl (Or.inr (Or.inl h))
   . rcases hat with e | e
     . exact Or.inl (Or.inr (Or.inr (by rw [<- e];exact h)))
     . have e2:=h
       rw [e] at e2
       have l:=(Li.row_lt ho j h).2
       have:=sia e2
       exact Or.inr ⟨by omega,l⟩
 . exact (same A H.box.lt H.ne).trans H.box
 . have e:ints (L++[p])=ints L++[(p:Int)]:=by simp [ints]
   rw [e];exact ho
 . refine ⟨hg.os.trans (b1.os.trans H.kx.os),hg.tape.trans (b1.tape.trans H.kx.tape),hg.output.trans (b1.output.trans H.kx.output),Nat.le_trans H.kx.size sz,fun j hj=> ?_⟩
   have l:=H.xl j hj
   exact (same j (nla l H.kx.size) (fun e=>by have:=vb j e;omega)).trans (H.kx.block j hj)
 . rcases hat with e | e
   . rw [e];exact H.ne
   . rw [e];intro h
     have:=H.box.lt
     have:=sia h
     omega
def zeroL (M:Int->Int) (L:List Nat):Int->Int:=L.foldl (fun M (p:Nat)=>mzero M (p:Int)) M
theorem zero_take (M:Int->Int) (L:List Nat) (i:Nat) (hi:i<L.length):zeroL M (L.take (i+1))=mzero (zeroL M (L.take i)) (L[i]:Nat):=by
 unfold zeroL
 rw [List.take_succ_eq_append_getElem hi,List.foldl_append];rfl
abbrev InL (s:Ps) (L:List Nat):Prop:=L.Nodup/\ ∀ p∈L,s.Fr p
theorem inl_snoc {s:Ps} {L:List Nat} {p:Nat} (h:InL s L) (hp:s.Fr p) (hn:p∉L):InL s (L++[p]) :=
 ⟨List.nodup_append.2 ⟨h.1,by simp,fun a ha b hb=>by simp at hb;subst hb;exact fun e=>hn (e ▸ ha)⟩,fun q hq=>by
  rcases List.mem_append.1 hq with h' | h'
  . exact h.2 q h'
  . simp at h';subst h';exact hp⟩
theorem takeall_ok {X:Nat->Prop} {W:World} {m:Pm} {s:Ps} (h:Pu X W m s) (k:Nat) (b:Box m s k) (n:Nat) (n9:n<=10) (hr:(n:Int)<=(s.T k).room) :
 Calls Tryz.prog 49 #[pv m k,.int .i64 n] W fun e w'=> ∃ (L:List Nat) (v:Value),e=.returned (.tuple #[v,.int .i64 0])/\L.length=n/\InL s L/\Pu (fun x=>X x\/v.ownBlock=some x) w' m { takeS s k L with M:=zeroL s.M L }/\Li.OI w' W.heap.size v (ints L)/\Kx X W w':=by
 have hb0:bc W (W.alloc (.cells #[pp m.rb,pp m.b,pp m.tb,.int .i64 k] 66)):=baa
 have T0:Hid (TI X W W.heap.size m k (takeS s k []) [] (.slice none 0 0) (W.alloc (.cells #[pp m.rb,pp m.b,pp m.tb,.int .i64 k] 66))):=by
  rw [take_nil]
  refine ⟨(h.grow hb0).less (fun j hj=> ?_) (Or.inl h.x0),Blk.made W [pp m.rb,pp m.b,pp m.tb,.int .i64 k] 66,Li.ol_none _ _ _ _ _,Kx.of_below h hb0,(fun e=>by cases e),h.tab.1,h.x0,h.lt⟩
  rcases hj with x | x | x
  . exact Or.inl x
  . right;rw [x,World.size_alloc];omega
  . cases x
 have SO:Hid (Sound m s):=h.so
 have BB:Hid (Box m s k):=b
 clear h b hb0
 go_enter Tryz.func49,Tryz.ntmps49
 go_upto_region 2 with fail
 generalize W.alloc (.cells #[pp m.rb,pp m.b,pp m.tb,.int .i64 k] 66)=W1 at T0 |-
 generalize W.heap.size=A at T0 |-
 go_wp2_with fail
 go_loopw [6,7,8,14] (fun vf _ _ vi w=> ∃ (j:Nat) (L:List Nat),j<=n/\j<=n/\vi=.int .i64 j/\L.length=j/\Hid (TI X W A m k (takeS s k L) L vf w)/\Hid (InL s L)) (fun _ _ _ vi _=>n-(Go.RowKit.intOf vi).toNat)
 case atStart=>exact ⟨0,[],by omega,by omega,rfl,rfl,T0,⟨List.nodup_nil,fun p hp=>absurd hp List.not_mem_nil⟩⟩
 case round =>
  clear T0
  obtain ⟨j,L,hj,hjm,rfl,hLj,TI0,IN⟩:=hrel
  by_cases cj:j<n
  rotate_left
  . obtain rfl:j=n:=by omega
    have d1:decide ((j:Int)<(j:Int))=false:=by simp
    obtain ⟨pf,cf,hvf⟩:=TI0.out.form
    rw [hLj] at hvf
    subst hvf
    have Z0:Hid (TI X W A m k { takeS s k L with M:=zeroL s.M (L.take 0) } L (.slice pf j cf) wr):=TI0.out
    clear TI0 cj
    go_wp2_with fail
    go_loopw [12,41] (fun _ vi w=> ∃ i:Nat,i<=j/\vi=.int .i64 i/\Hid (TI X W A m k { takeS s k L with M:=zeroL s.M (L.take i) } L (.slice pf j cf) w)) (fun _ vi _=>j-(Go.RowKit.intOf vi).toNat)
    case atStart=>exact ⟨0,by omega,rfl,Z0⟩
    case round =>
     clear Z0
     obtain ⟨i,hi,rfl,TZ⟩:=hrel
     by_cases ci:i<j
     . have d2:decide ((i:Int)<(j:Int))=true:=by simp;omega
       have d3:decide ((i:Int)<0)=false:=by simp
       obtain ⟨g,rfl,lg,hc⟩:=ii_read TZ.out.own i (by omega)
       have iL:i<L.length:=by omega
       have ZC:Hid (Calls Tryz.prog 89 #[pp m.rb,.int .i64 (L[i]:Nat)] wr fun e w'=>e=.returned (.int .i64 0)/\TI X W A m k { takeS s k L with M:=zeroL s.M (L.take (i+1)) } L (.slice (some ⟨g,0,none⟩) j cf) w'):=by
        refine (TZ.out.pu.zero (L[i]:Nat) (SO.out.fh _ (IN.out.2 _ (List.getElem_mem iL)))).mono ?_
        rintro e w' ⟨he,hp,hk⟩
        refine ⟨he,TZ.out.step ?_ hk⟩
        rw [zero_take _ _ _ iL]
        exact hp
       have BX:=TZ.out.box
       have c0:wr.cell? ⟨A,0,none⟩=some (pp m.rb):=BX.cell 0
       have lA:=BX.lt
       generalize (L[i]:Nat)=x at hc ZC
       clear BX TZ iL
       go_wp2_with fail
       refine Calls.mono ZC.out ?_
       rintro e w2 ⟨rfl,hT⟩
       have TZ2:Hid (TI X W A m k { takeS s k L with M:=zeroL s.M (L.take (i+1)) } L (.slice (some ⟨g,0,none⟩) j cf) w2):=hT
       clear hT ZC hc c0 lA lg
       go_wp2_with fail
       go_roundw
       case rel=>exact ⟨i+1,by omega,by go_num,TZ2⟩
       case measure=>simp [Go.RowKit.intOf];omega
     . obtain rfl:i=j:=by omega
       have d2:decide ((i:Int)<(i:Int))=false:=by simp
       go_wp2_with fail
       go_returns
       have e1:L.take i=L:=by rw [<- hLj,List.take_length]
       have q:=TZ.out
       rw [e1] at q
       exact ⟨L,_,rfl,hLj,IN.out,q.pu.less (fun x hx=>hx.elim Or.inl (fun e=>Or.inr (Or.inr e))) (Or.inl q.x0),q.own,q.kx⟩
  have d1:decide ((j:Int)<(n:Int))=true:=kh
  obtain ⟨q,hq⟩: ∃ q:Int,q=(L.length:Int)+1:=⟨_,rfl⟩
  have RC:Hid _:=reserve_more TI0.out.pu SO.out BB.out IN.out.1 IN.out.2 (by omega) (by omega)
  have BX:=TI0.out.box
  have c0:wr.cell? ⟨A,0,none⟩=some (pp m.rb):=BX.cell 0
  have c1:wr.cell? ⟨A,1,none⟩=some (pp m.b):=BX.cell 1
  have c2:wr.cell? ⟨A,2,none⟩=some (pp m.tb):=BX.cell 2
  have c3:wr.cell? ⟨A,3,none⟩=some (.int .i64 k):=BX.cell 3
  have lA:=BX.lt
  clear BX hq q
  go_wp2_with fail
  refine Calls.mono RC.out ?_
  rintro e w1 ⟨p,rfl,hF,hn,hp,hk⟩
  have TI1:Hid (TI X W A m k (takeS s k (L++[p])) L u6 w1):=TI0.out.step hp hk
  have IN1:Hid (InL s (L++[p])):=inl_snoc IN.out hF hn
  clear hF hn hp hk RC c0 c1 c2 c3 lA
  obtain ⟨v',W2,r,TI2⟩:=TI1.out.app (by omega) p
  have HT2:Hid (TI X W A m k (takeS s k (L++[p])) (L++[p]) v' W2):=TI2
  clear TI2 TI1 TI0 IN
  go_wp2_with (at_builtin;refine wpList_app rfl _ _ 22 rfl u6 (.slice (some ⟨w1.heap.size,0,none⟩) 1 1) rfl rfl v' W2 r ?_)
  go_roundw
  case rel=>exact ⟨j+1,L++[p],by omega,by omega,by go_num,by simp [hLj],HT2,IN1⟩
  case measure=>simp [Go.RowKit.intOf];omega
theorem take_ok {X:Nat->Prop} {W:World} {m:Pm} {s:Ps} (h:Pu X W m s) (k:Nat) (b:Box m s k) (hr:1<=(s.T k).room) :
 Calls Tryz.prog 23 #[pv m k] W fun e w'=> ∃ p:Nat,e=.returned (.tuple #[.int .i64 p,.int .i64 0])/\s.Fr p/\Pu X w' m { takeS s k [p] with M:=mzero s.M p }/\Kx X W w':=by
 have hb0:bc W (W.alloc (.cells #[pp m.rb,pp m.b,pp m.tb,.int .i64 k] 66)):=baa
 have TC:Hid (Calls Tryz.prog 49 #[pv m k,.int .i64 1] (W.alloc (.cells #[pp m.rb,pp m.b,pp m.tb,.int .i64 k] 66)) fun e w'=> ∃ (p g c:Nat),e=.returned (.tuple #[.slice (some ⟨g,0,none⟩) 1 c,.int .i64 0])/\s.Fr p/\w'.cell? ⟨g,0,none⟩=some (.int .i64 p)/\g<w'.heap.size/\Pu X w' m { takeS s k [p] with M:=mzero s.M p }/\Kx X W w'):=by
  refine (takeall_ok (h.grow hb0) k b 1 (by omega) hr).mono ?_
  rintro e w' ⟨L,v,he,hl,IN,hp,ho,hk⟩
  obtain ⟨p,rfl⟩: ∃ p,L=[p]:=List.length_eq_one_iff.1 hl
  obtain ⟨pf,cf,hv,_⟩:=(Li.ol_ll Li.eI_len ho).form
  have hv':v=.slice pf 1 cf:=hv
  subst hv'
  obtain ⟨g,rfl,lg,hc⟩:=ii_read ho 0 (by simp)
  exact ⟨p,g,cf,he,IN.2 p (by simp),hc,lg,pu_of h (hp.less (fun j hj=>Or.inl hj) (Or.inl h.x0)),kx_of h hb0 hk⟩
 have BX:Hid (Blk (W.alloc (.cells #[pp m.rb,pp m.b,pp m.tb,.int .i64 k] 66)) W.heap.size [pp m.rb,pp m.b,pp m.tb,.int .i64 k] 66):=Blk.made W [pp m.rb,pp m.b,pp m.tb,.int .i64 k] 66
 clear h b hr hb0
 go_enter Tryz.func23,Tryz.ntmps23
 go_wp2_with fail
 refine Calls.mono TC.out ?_
 rintro e w1 ⟨p,g,c,rfl,hF,hc,lg,hp⟩
 have H1:Hid (s.Fr p/\Pu X w1 m { takeS s k [p] with M:=mzero s.M p }/\Kx X W w1):=⟨hF,hp⟩
 clear hF hp TC
 go_wp2_with fail
 go_returns
 exact ⟨p,rfl,H1.out⟩
end Go.Proofs.YtgbdnnkkcpkhdaaGreatDoor.Tt
namespace Go.Proofs.YtgbdnnkkcpkhdaaGreatDoor.Tt
theorem below_cell {w w':World} {g i:Nat} {v:Value} (hb:bc w w') (lg:g<w.heap.size) (h:w.cell? ⟨g,i,none⟩=some v):w'.cell? ⟨g,i,none⟩=some v:=(hb.cell (p:=⟨g,i,none⟩) lg).trans h
theorem wanted_mp {c:Prop} [Decidable c] {a b:Prop} (h:c) (ha:a):if c then a else b:=by rw [if_pos h];exact ha
theorem pow_bt (x:Int): ∃ b0 b1 b2 b3 b4 b5 b6 b7 fr,unp x=.agg (sd b0 b1 b2 b3 b4 b5 b6 b7 fr):=⟨_,_,_,_,_,_,_,_,_,rfl⟩
section
variable {X:Nat->Prop} {W:World} {m:Pm} {s:Ps}
theorem last_1 (h:Pu X W m s) (k:Int) (a0 a1 a2 a3:Int) (g c x:Nat) (hx:m.has x=true) (i0:0<=a0) (i1:a0<512) (lg:g<W.heap.size) (hc:W.cell? ⟨g,0,none⟩=some (.int .i64 x)) :
 Calls Tryz.prog 129 #[pv m k,.agg (si a0 a1 a2 a3 (.slice (some ⟨g,0,none⟩) 1 c))] W (re (unp (En s.M x a0)) W):=by
 have GC:Hid (∀ w:World,bc W w->Calls Tryz.prog 139 #[pv m k,.int .i64 x,.int .i64 a0] w (re (unp (En s.M x a0)) w)):=fun w hb=>get_any (h.below hb) k x a0 hx i0 i1
 obtain ⟨b0,b1,b2,b3,b4,b5,b6,b7,fr,hv⟩:=pow_bt (En s.M x a0)
 rw [hv] at GC |-
 have HB:Hid (bc W (((W.alloc (.cells #[pp m.rb,pp m.b,pp m.tb,.int .i64 k] 66)).alloc (.cells (si a0 a1 a2 a3 (.slice (some ⟨g,0,none⟩) 1 c)) 240)).alloc (.cells sg1 98))):=below_then (below_then baa baa) baa
 have BA:Hid (Blk (((W.alloc (.cells #[pp m.rb,pp m.b,pp m.tb,.int .i64 k] 66)).alloc (.cells (si a0 a1 a2 a3 (.slice (some ⟨g,0,none⟩) 1 c)) 240)).alloc (.cells sg1 98)) W.heap.size [pp m.rb,pp m.b,pp m.tb,.int .i64 k] 66):=((Blk.made W [pp m.rb,pp m.b,pp m.tb,.int .i64 k] 66).below baa).below baa
 have s1:(W.alloc (.cells #[pp m.rb,pp m.b,pp m.tb,.int .i64 k] 66)).heap.size=W.heap.size+1:=World.size_alloc _ _
 have s2:((W.alloc (.cells #[pp m.rb,pp m.b,pp m.tb,.int .i64 k] 66)).alloc (.cells (si a0 a1 a2 a3 (.slice (some ⟨g,0,none⟩) 1 c)) 240)).heap.size=W.heap.size+2:=kj
 have BB:Hid (Blk (((W.alloc (.cells #[pp m.rb,pp m.b,pp m.tb,.int .i64 k] 66)).alloc (.cells (si a0 a1 a2 a3 (.slice (some ⟨g,0,none⟩) 1 c)) 240)).alloc (.cells sg1 98)) (W.heap.size+1) (sj a0 a1 a2 a3 (.slice (some ⟨g,0,none⟩) 1 c)) 240):=by
  rw [<- s1]
  exact (Blk.made (W.alloc (.cells #[pp m.rb,pp m.b,pp m.tb,.int .i64 k] 66)) (sj a0 a1 a2 a3 (.slice (some ⟨g,0,none⟩) 1 c)) 240).below baa
 have BR:Hid (Blk (((W.alloc (.cells #[pp m.rb,pp m.b,pp m.tb,.int .i64 k] 66)).alloc (.cells (si a0 a1 a2 a3 (.slice (some ⟨g,0,none⟩) 1 c)) 240)).alloc (.cells sg1 98)) (W.heap.size+2) sh1 98):=by
  rw [<- s2]
  exact Blk.made _ sh1 98
 have HR:Hid (W.heap.size<=W.heap.size+2):=Nat.le_add_right _ _
 have HC:Hid (g<(((W.alloc (.cells #[pp m.rb,pp m.b,pp m.tb,.int .i64 k] 66)).alloc (.cells (si a0 a1 a2 a3 (.slice (some ⟨g,0,none⟩) 1 c)) 240)).alloc (.cells sg1 98)).heap.size/\(((W.alloc (.cells #[pp m.rb,pp m.b,pp m.tb,.int .i64 k] 66)).alloc (.cells (si a0 a1 a2 a3 (.slice (some ⟨g,0,none⟩) 1 c)) 240)).alloc (.cells sg1 98)).cell? ⟨g,0,none⟩=some (.int .i64 x)):=⟨nla lg HB.out.size,below_cell HB.out lg hc⟩
 have DIS:Hid (W.heap.size≠W.heap.size+2/\W.heap.size+1≠W.heap.size+2/\g<W.heap.size+2/\g<W.heap.size):=⟨by omega,by omega,by omega,lg⟩
 clear h hx i0 i1 lg hc hv s1 s2
 go_enter Tryz.func129,Tryz.ntmps129
 go_upto_region 2 with fail
 generalize (((W.alloc (.cells #[pp m.rb,pp m.b,pp m.tb,.int .i64 k] 66)).alloc (.cells (si a0 a1 a2 a3 (.slice (some ⟨g,0,none⟩) 1 c)) 240)).alloc (.cells sg1 98))=W3 at HB BA BB BR HC |-
 generalize hR:W.heap.size+2=R at BR HR DIS |-
 generalize hB:W.heap.size+1=B at BB DIS |-
 obtain ⟨A,hA⟩: ∃ A,W.heap.size=A:=⟨_,rfl⟩
 have DIS:Hid (A≠R/\B≠R/\g<R/\g<W.heap.size):=by rw [<- hA];exact DIS.out
 rw [hA] at BA |-
 clear hR hB hA
 refine hda (fun d=>Blk d A [pp m.rb,pp m.b,pp m.tb,.int .i64 k] 66/\Blk d B (sj a0 a1 a2 a3 (.slice (some ⟨g,0,none⟩) 1 c)) 240/\d.cell? ⟨g,0,none⟩=some (.int .i64 x)) (⟨BA.out,BB.out,HC.out.2⟩) fun hHeld=> ?_
 have BU:Hid (bc W W3.drew):=below_drew HB.out
 clear HB
 change Hid (Blk W3.drew A [pp m.rb,pp m.b,pp m.tb,.int .i64 k] 66) at BA
 change Hid (Blk W3.drew B (sj a0 a1 a2 a3 (.slice (some ⟨g,0,none⟩) 1 c)) 240) at BB
 change Hid (Blk W3.drew R sh1 98) at BR
 change Hid (g<W3.drew.heap.size/\W3.drew.cell? ⟨g,0,none⟩=some (.int .i64 x)) at HC
 generalize W3.drew=U at hHeld BU BA BB BR HC |-
 refine tla 0 10 (.agg #[pp m.rb,pp m.b,pp m.tb,.int .i64 k]) rfl ?_ ?_
 . exact kl
 refine tma 1 11 rfl ?_
 refine tla 2 12 ((.slice (some ⟨g,0,none⟩) 1 c)) rfl ?_ ?_
 . exact kn
 refine tma 3 13 rfl ?_
 refine tma 4 14 rfl ?_
 refine tla 5 15 (.int .i64 x) rfl ?_ ?_
 . exact kq
 refine tma 6 16 rfl ?_
 refine tma 7 17 rfl ?_
 refine tma 8 18 rfl ?_
 refine tla 9 19 (.int .i64 a0) rfl ?_ ?_
 . intro w hSw;(try dsimp only at hSw);have r:=Blk.cell hSw.2.1 0;(try go_simp);(try simp [*])
 refine rda 10 ⟨some 20,_,_,_,_,none⟩ rfl fun K hK=> ?_
 go_simp
 go_wp2_with (go_at_call 139;refine Calls.mono (GC.out _ BU.out) ?_;rintro e u2 ⟨rfl,hb2⟩)
 have BU2:Hid (bc W u2):=below_then BU.out hb2
 have BR2:Hid (Blk u2 R sh1 98):=BR.out.below hb2
 have KE:Hid (Blk u2 A [pp m.rb,pp m.b,pp m.tb,.int .i64 k] 66/\Blk u2 B (sj a0 a1 a2 a3 (.slice (some ⟨g,0,none⟩) 1 c)) 240/\u2.cell? ⟨g,0,none⟩=some (.int .i64 x)):=⟨hHeld.1.below hb2,hHeld.2.1.below hb2,below_cell hb2 HC.out.1 hHeld.2.2⟩
 refine hK.out _ _ KE.out ?_
 clear hK K hHeld hb2 BU BR BA BB KE
 intro hHeld
 try simp only [Act.put,zaa,zba,zca]
 refine rda 11 ⟨none,.store 98 (.tmp 4) (.tmp 20),_,_,_,none⟩ rfl fun K hK=> ?_
 refine wanted_mp rfl ?_
 have th:u2.there R 0 9:=BR2.out.there
 refine wp_store_mid _ _ _ rfl R 0 (sd b0 b1 b2 b3 b4 b5 b6 b7 fr) rfl rfl th ka kr ?_
 (try simp only [List.toList_toArray])
 have F1:Hid (Blk (u2.setCells R 0 (sh b0 b1 b2 b3 b4 b5 b6 b7 fr)) R (sh b0 b1 b2 b3 b4 b5 b6 b7 fr) 98/\bc W (u2.setCells R 0 (sh b0 b1 b2 b3 b4 b5 b6 b7 fr))):=⟨BR2.out.put rfl,below_put BU2.out HR.out _⟩
 have gk:=Qu.grown_setCells R (sh b0 b1 b2 b3 b4 b5 b6 b7 fr) 0 u2
 have KE:Hid (Blk (u2.setCells R 0 (sh b0 b1 b2 b3 b4 b5 b6 b7 fr)) A [pp m.rb,pp m.b,pp m.tb,.int .i64 k] 66/\Blk (u2.setCells R 0 (sh b0 b1 b2 b3 b4 b5 b6 b7 fr)) B (sj a0 a1 a2 a3 (.slice (some ⟨g,0,none⟩) 1 c)) 240/\(u2.setCells R 0 (sh b0 b1 b2 b3 b4 b5 b6 b7 fr)).cell? ⟨g,0,none⟩=some (.int .i64 x)):=⟨(gk.block A hHeld.1.lt (fun e=>by have:=sia e;have:=DIS.out;omega)).trans hHeld.1,(gk.block B hHeld.2.1.lt (fun e=>by have:=sia e;have:=DIS.out;omega)).trans hHeld.2.1,(World.cell?_of_block (w:=u2) (a:=⟨g,0,none⟩) (gk.block g (nla DIS.out.2.2.2 BU2.out.size) (fun e=>by have:=sia e;have:=DIS.out;omega))).trans hHeld.2.2⟩
 clear gk
 generalize u2.setCells R 0 (sh b0 b1 b2 b3 b4 b5 b6 b7 fr)=V at *
 refine hK.out _ _ KE.out ?_
 clear hK K hHeld th KE BR2 BU2
 intro hHeld
 try simp only [Act.put,zaa,zba,zca]
 clear hHeld
 refine wpAnyH_done ka ?_ _
 refine NoPanic.normal ?_
 go_wp2_with fail
 refine bodyPost_ret (v:=.agg (sd b0 b1 b2 b3 b4 b5 b6 b7 fr)) (results_one Tryz.results129 _ _ _ _ _ rfl (run_loadVar_mid (P:=Tryz.prog) _ R 0 98 (sh b0 b1 b2 b3 b4 b5 b6 b7 fr) _ F1.out.1.range Tryz.underlying98 rfl ka)) rfl ?_
 exact ⟨rfl,F1.out.2⟩
theorem link_1 (h:Pu X W m s) (hq:s.q<4611686018427387904) (k:Int) (a0 a1 a2 a3:Int) (g c x:Nat) (hx:m.has x=true) (i0:0<=a0) (i1:a0<512) (hg:X g) (hc:W.cell? ⟨g,0,none⟩=some (.int .i64 x)) (p r u a d lg_ gl n:Bool) (fr:Int) (r0:0<=fr) (r1:fr<1048576) :
 Calls Tryz.prog 130 #[pv m k,.agg (si a0 a1 a2 a3 (.slice (some ⟨g,0,none⟩) 1 c)),ev p r u a d lg_ gl n fr] W fun e w'=>e=.returned (.tuple #[])/\Pu X w' m { s with M:=enSet s.M x a0 (packV p r u a d lg_ gl n fr),q:=s.q+2 }/\Kx X W w':=by
 have lg:=h.lt g hg
 have SC:Hid (∀ w:World,bc W w->Calls Tryz.prog 24 #[pv m k,.int .i64 x,.int .i64 a0,ev p r u a d lg_ gl n fr] w fun e w'=>e=.returned (.tuple #[])/\Pu X w' m { s with M:=enSet s.M x a0 (packV p r u a d lg_ gl n fr),q:=s.q+2 }/\Kx X W w'/\Kn W w w'/\w'.heap[g]? =w.heap[g]?):=fun w hb=>(set_any (h.grow hb) hq k x a0 hx i0 i1 p r u a d lg_ gl n fr r0 r1).mono (fun e w' ⟨he,hp,hk⟩=>⟨he,pu_of h hp,kx_of h hb hk,kn_of hk,hk.block g (Or.inl hg)⟩)
 obtain ⟨s',hs'⟩: ∃ s',s'=({ s with M:=enSet s.M x a0 (packV p r u a d lg_ gl n fr),q:=s.q+2 }:Ps):=⟨_,rfl⟩
 rw [<- hs'] at SC |-
 have HB:Hid (bc W (((W.alloc (.cells #[pp m.rb,pp m.b,pp m.tb,.int .i64 k] 66)).alloc (.cells (si a0 a1 a2 a3 (.slice (some ⟨g,0,none⟩) 1 c)) 240)).alloc (.cells (sd p r u a d lg_ gl n fr) 98))):=below_then (below_then baa baa) baa
 have BA:Hid (Blk (((W.alloc (.cells #[pp m.rb,pp m.b,pp m.tb,.int .i64 k] 66)).alloc (.cells (si a0 a1 a2 a3 (.slice (some ⟨g,0,none⟩) 1 c)) 240)).alloc (.cells (sd p r u a d lg_ gl n fr) 98)) W.heap.size [pp m.rb,pp m.b,pp m.tb,.int .i64 k] 66):=((Blk.made W [pp m.rb,pp m.b,pp m.tb,.int .i64 k] 66).below baa).below baa
 have s1:(W.alloc (.cells #[pp m.rb,pp m.b,pp m.tb,.int .i64 k] 66)).heap.size=W.heap.size+1:=World.size_alloc _ _
 have s2:((W.alloc (.cells #[pp m.rb,pp m.b,pp m.tb,.int .i64 k] 66)).alloc (.cells (si a0 a1 a2 a3 (.slice (some ⟨g,0,none⟩) 1 c)) 240)).heap.size=W.heap.size+2:=kj
 have BB:Hid (Blk (((W.alloc (.cells #[pp m.rb,pp m.b,pp m.tb,.int .i64 k] 66)).alloc (.cells (si a0 a1 a2 a3 (.slice (some ⟨g,0,none⟩) 1 c)) 240)).alloc (.cells (sd p r u a d lg_ gl n fr) 98)) (W.heap.size+1) (sj a0 a1 a2 a3 (.slice (some ⟨g,0,none⟩) 1 c)) 240):=by
  rw [<- s1]
  exact (Blk.made (W.alloc (.cells #[pp m.rb,pp m.b,pp m.tb,.int .i64 k] 66)) (sj a0 a1 a2 a3 (.slice (some ⟨g,0,none⟩) 1 c)) 240).below baa
 have BR:Hid (Blk (((W.alloc (.cells #[pp m.rb,pp m.b,pp m.tb,.int .i64 k] 66)).alloc (.cells (si a0 a1 a2 a3 (.slice (some ⟨g,0,none⟩) 1 c)) 240)).alloc (.cells (sd p r u a d lg_ gl n fr) 98)) (W.heap.size+2) (sh p r u a d lg_ gl n fr) 98):=by
  rw [<- s2]
  exact Blk.made _ (sh p r u a d lg_ gl n fr) 98
 have HC:Hid (g<(((W.alloc (.cells #[pp m.rb,pp m.b,pp m.tb,.int .i64 k] 66)).alloc (.cells (si a0 a1 a2 a3 (.slice (some ⟨g,0,none⟩) 1 c)) 240)).alloc (.cells (sd p r u a d lg_ gl n fr) 98)).heap.size/\(((W.alloc (.cells #[pp m.rb,pp m.b,pp m.tb,.int .i64 k] 66)).alloc (.cells (si a0 a1 a2 a3 (.slice (some ⟨g,0,none⟩) 1 c)) 240)).alloc (.cells (sd p r u a d lg_ gl n fr) 98)).cell? ⟨g,0,none⟩=some (.int .i64 x)):=⟨nla lg HB.out.size,below_cell HB.out lg hc⟩
 have DIS:Hid (W.heap.size<=W.heap.size/\W.heap.size<=W.heap.size+1/\W.heap.size<=W.heap.size+2):=⟨by omega,by omega,by omega⟩
 clear h hx i0 i1 lg hc s1 s2 hs' hq r0 r1 hg
 go_enter Tryz.func130,Tryz.ntmps130
 go_upto_region 2 with fail
 generalize (((W.alloc (.cells #[pp m.rb,pp m.b,pp m.tb,.int .i64 k] 66)).alloc (.cells (si a0 a1 a2 a3 (.slice (some ⟨g,0,none⟩) 1 c)) 240)).alloc (.cells (sd p r u a d lg_ gl n fr) 98))=W3 at HB BA BB BR HC |-
 generalize hR:W.heap.size+2=R at BR DIS |-
 generalize hB:W.heap.size+1=B at BB DIS |-
 obtain ⟨A,hA⟩: ∃ A,W.heap.size=A:=⟨_,rfl⟩
 have DIS:Hid (W.heap.size<=A/\W.heap.size<=B/\W.heap.size<=R):=⟨by omega,DIS.out.2⟩
 rw [hA] at BA |-
 clear hR hB hA
 refine hda (fun cw=>Blk cw A [pp m.rb,pp m.b,pp m.tb,.int .i64 k] 66/\Blk cw B (sj a0 a1 a2 a3 (.slice (some ⟨g,0,none⟩) 1 c)) 240/\cw.cell? ⟨g,0,none⟩=some (.int .i64 x)/\Blk cw R (sh p r u a d lg_ gl n fr) 98) (⟨BA.out,BB.out,HC.out.2,BR.out⟩) fun hHeld=> ?_
 have BU:Hid (bc W W3.drew):=below_drew HB.out
 clear HB
 change Hid (Blk W3.drew A [pp m.rb,pp m.b,pp m.tb,.int .i64 k] 66) at BA
 change Hid (Blk W3.drew B (sj a0 a1 a2 a3 (.slice (some ⟨g,0,none⟩) 1 c)) 240) at BB
 change Hid (Blk W3.drew R (sh p r u a d lg_ gl n fr) 98) at BR
 change Hid (g<W3.drew.heap.size/\W3.drew.cell? ⟨g,0,none⟩=some (.int .i64 x)) at HC
 generalize W3.drew=U at hHeld BU BA BB BR HC |-
 refine tla 0 11 (.agg #[pp m.rb,pp m.b,pp m.tb,.int .i64 k]) rfl ?_ ?_
 . exact kl
 refine tma 1 12 rfl ?_
 refine tla 2 13 ((.slice (some ⟨g,0,none⟩) 1 c)) rfl ?_ ?_
 . exact kn
 refine tma 3 14 rfl ?_
 refine tma 4 15 rfl ?_
 refine tla 5 16 (.int .i64 x) rfl ?_ ?_
 . exact ku
 refine tma 6 17 rfl ?_
 refine tma 7 18 rfl ?_
 refine tma 8 19 rfl ?_
 refine tla 9 20 (.int .i64 a0) rfl ?_ ?_
 . intro w hSw;(try dsimp only at hSw);have r:=Blk.cell hSw.2.1 0;(try go_simp);(try simp [*])
 refine tla 10 21 (.agg (sd p r u a d lg_ gl n fr)) rfl ?_ ?_
 . exact kv
 refine rda 11 ⟨some 22,_,_,_,_,none⟩ rfl fun K hK=> ?_
 go_simp
 go_wp2_with (go_at_call 24;refine Calls.mono (SC.out _ BU.out) ?_;rintro e u2 ⟨rfl,hp,hk,hn,hg⟩)
 have E2:Hid (Pu X u2 m s'/\Kx X W u2):=⟨hp,hk⟩
 have KE:Hid (Blk u2 A [pp m.rb,pp m.b,pp m.tb,.int .i64 k] 66/\Blk u2 B (sj a0 a1 a2 a3 (.slice (some ⟨g,0,none⟩) 1 c)) 240/\u2.cell? ⟨g,0,none⟩=some (.int .i64 x)/\Blk u2 R (sh p r u a d lg_ gl n fr) 98):=⟨(hn A DIS.out.1 hHeld.1.lt).trans hHeld.1,(hn B DIS.out.2.1 hHeld.2.1.lt).trans hHeld.2.1,(World.cell?_of_block (w:=U) (a:=⟨g,0,none⟩) hg).trans hHeld.2.2.1,(hn R DIS.out.2.2 hHeld.2.2.2.lt).trans hHeld.2.2.2⟩
 refine hK.out _ _ KE.out ?_
 clear hK K hHeld hp hk hn hg BU BR BA BB HC KE
 intro hHeld
 try simp only [Act.put,zaa,zba,zca]
 clear hHeld
 refine wpAnyH_done ka ?_ _
 refine NoPanic.normal ?_
 go_wp2_with fail
 go_returns
 exact ⟨rfl,E2.out⟩
theorem last_2 (h:Pu X W m s) (k:Int) (a0 a1 a2 a3:Int) (g c x:Nat) (hx:m.has x=true) (i0:0<=a1) (i1:a1<512) (lg:g<W.heap.size) (hc:W.cell? ⟨g,1,none⟩=some (.int .i64 x)) :
 Calls Tryz.prog 129 #[pv m k,.agg (si a0 a1 a2 a3 (.slice (some ⟨g,0,none⟩) 2 c))] W (re (unp (En s.M x a1)) W):=by
 have GC:Hid (∀ w:World,bc W w->Calls Tryz.prog 139 #[pv m k,.int .i64 x,.int .i64 a1] w (re (unp (En s.M x a1)) w)):=fun w hb=>get_any (h.below hb) k x a1 hx i0 i1
 obtain ⟨b0,b1,b2,b3,b4,b5,b6,b7,fr,hv⟩:=pow_bt (En s.M x a1)
 rw [hv] at GC |-
 have HB:Hid (bc W (((W.alloc (.cells #[pp m.rb,pp m.b,pp m.tb,.int .i64 k] 66)).alloc (.cells (si a0 a1 a2 a3 (.slice (some ⟨g,0,none⟩) 2 c)) 240)).alloc (.cells sg1 98))):=below_then (below_then baa baa) baa
 have BA:Hid (Blk (((W.alloc (.cells #[pp m.rb,pp m.b,pp m.tb,.int .i64 k] 66)).alloc (.cells (si a0 a1 a2 a3 (.slice (some ⟨g,0,none⟩) 2 c)) 240)).alloc (.cells sg1 98)) W.heap.size [pp m.rb,pp m.b,pp m.tb,.int .i64 k] 66):=((Blk.made W [pp m.rb,pp m.b,pp m.tb,.int .i64 k] 66).below baa).below baa
 have s1:(W.alloc (.cells #[pp m.rb,pp m.b,pp m.tb,.int .i64 k] 66)).heap.size=W.heap.size+1:=World.size_alloc _ _
 have s2:((W.alloc (.cells #[pp m.rb,pp m.b,pp m.tb,.int .i64 k] 66)).alloc (.cells (si a0 a1 a2 a3 (.slice (some ⟨g,0,none⟩) 2 c)) 240)).heap.size=W.heap.size+2:=kj
 have BB:Hid (Blk (((W.alloc (.cells #[pp m.rb,pp m.b,pp m.tb,.int .i64 k] 66)).alloc (.cells (si a0 a1 a2 a3 (.slice (some ⟨g,0,none⟩) 2 c)) 240)).alloc (.cells sg1 98)) (W.heap.size+1) (sj a0 a1 a2 a3 (.slice (some ⟨g,0,none⟩) 2 c)) 240):=by
  rw [<- s1]
  exact (Blk.made (W.alloc (.cells #[pp m.rb,pp m.b,pp m.tb,.int .i64 k] 66)) (sj a0 a1 a2 a3 (.slice (some ⟨g,0,none⟩) 2 c)) 240).below baa
 have BR:Hid (Blk (((W.alloc (.cells #[pp m.rb,pp m.b,pp m.tb,.int .i64 k] 66)).alloc (.cells (si a0 a1 a2 a3 (.slice (some ⟨g,0,none⟩) 2 c)) 240)).alloc (.cells sg1 98)) (W.heap.size+2) sh1 98):=by
  rw [<- s2]
  exact Blk.made _ sh1 98
 have HR:Hid (W.heap.size<=W.heap.size+2):=Nat.le_add_right _ _
 have HC:Hid (g<(((W.alloc (.cells #[pp m.rb,pp m.b,pp m.tb,.int .i64 k] 66)).alloc (.cells (si a0 a1 a2 a3 (.slice (some ⟨g,0,none⟩) 2 c)) 240)).alloc (.cells sg1 98)).heap.size/\(((W.alloc (.cells #[pp m.rb,pp m.b,pp m.tb,.int .i64 k] 66)).alloc (.cells (si a0 a1 a2 a3 (.slice (some ⟨g,0,none⟩) 2 c)) 240)).alloc (.cells sg1 98)).cell? ⟨g,1,none⟩=some (.int .i64 x)):=⟨nla lg HB.out.size,below_cell HB.out lg hc⟩
 have DIS:Hid (W.heap.size≠W.heap.size+2/\W.heap.size+1≠W.heap.size+2/\g<W.heap.size+2/\g<W.heap.size):=⟨by omega,by omega,by omega,lg⟩
 clear h hx i0 i1 lg hc hv s1 s2
 go_enter Tryz.func129,Tryz.ntmps129
 go_upto_region 2 with fail
 generalize (((W.alloc (.cells #[pp m.rb,pp m.b,pp m.tb,.int .i64 k] 66)).alloc (.cells (si a0 a1 a2 a3 (.slice (some ⟨g,0,none⟩) 2 c)) 240)).alloc (.cells sg1 98))=W3 at HB BA BB BR HC |-
 generalize hR:W.heap.size+2=R at BR HR DIS |-
 generalize hB:W.heap.size+1=B at BB DIS |-
 obtain ⟨A,hA⟩: ∃ A,W.heap.size=A:=⟨_,rfl⟩
 have DIS:Hid (A≠R/\B≠R/\g<R/\g<W.heap.size):=by rw [<- hA];exact DIS.out
 rw [hA] at BA |-
 clear hR hB hA
 refine hda (fun d=>Blk d A [pp m.rb,pp m.b,pp m.tb,.int .i64 k] 66/\Blk d B (sj a0 a1 a2 a3 (.slice (some ⟨g,0,none⟩) 2 c)) 240/\d.cell? ⟨g,1,none⟩=some (.int .i64 x)) (⟨BA.out,BB.out,HC.out.2⟩) fun hHeld=> ?_
 have BU:Hid (bc W W3.drew):=below_drew HB.out
 clear HB
 change Hid (Blk W3.drew A [pp m.rb,pp m.b,pp m.tb,.int .i64 k] 66) at BA
 change Hid (Blk W3.drew B (sj a0 a1 a2 a3 (.slice (some ⟨g,0,none⟩) 2 c)) 240) at BB
 change Hid (Blk W3.drew R sh1 98) at BR
 change Hid (g<W3.drew.heap.size/\W3.drew.cell? ⟨g,1,none⟩=some (.int .i64 x)) at HC
 generalize W3.drew=U at hHeld BU BA BB BR HC |-
 refine tla 0 10 (.agg #[pp m.rb,pp m.b,pp m.tb,.int .i64 k]) rfl ?_ ?_
 . exact kl
 refine tma 1 11 rfl ?_
 refine tla 2 12 ((.slice (some ⟨g,0,none⟩) 2 c)) rfl ?_ ?_
 . exact kn
 refine tma 3 13 rfl ?_
 refine tma 4 14 rfl ?_
 refine tla 5 15 (.int .i64 x) rfl ?_ ?_
 . exact kq
 refine tma 6 16 rfl ?_
 refine tma 7 17 rfl ?_
 refine tma 8 18 rfl ?_
 refine tla 9 19 (.int .i64 a1) rfl ?_ ?_
 . exact kw
 refine rda 10 ⟨some 20,_,_,_,_,none⟩ rfl fun K hK=> ?_
 go_simp
 go_wp2_with (go_at_call 139;refine Calls.mono (GC.out _ BU.out) ?_;rintro e u2 ⟨rfl,hb2⟩)
 have BU2:Hid (bc W u2):=below_then BU.out hb2
 have BR2:Hid (Blk u2 R sh1 98):=BR.out.below hb2
 have KE:Hid (Blk u2 A [pp m.rb,pp m.b,pp m.tb,.int .i64 k] 66/\Blk u2 B (sj a0 a1 a2 a3 (.slice (some ⟨g,0,none⟩) 2 c)) 240/\u2.cell? ⟨g,1,none⟩=some (.int .i64 x)):=⟨hHeld.1.below hb2,hHeld.2.1.below hb2,below_cell hb2 HC.out.1 hHeld.2.2⟩
 refine hK.out _ _ KE.out ?_
 clear hK K hHeld hb2 BU BR BA BB KE
 intro hHeld
 try simp only [Act.put,zaa,zba,zca]
 refine rda 11 ⟨none,.store 98 (.tmp 4) (.tmp 20),_,_,_,none⟩ rfl fun K hK=> ?_
 refine wanted_mp rfl ?_
 have th:u2.there R 0 9:=BR2.out.there
 refine wp_store_mid _ _ _ rfl R 0 (sd b0 b1 b2 b3 b4 b5 b6 b7 fr) rfl rfl th ka kr ?_
 (try simp only [List.toList_toArray])
 have F1:Hid (Blk (u2.setCells R 0 (sh b0 b1 b2 b3 b4 b5 b6 b7 fr)) R (sh b0 b1 b2 b3 b4 b5 b6 b7 fr) 98/\bc W (u2.setCells R 0 (sh b0 b1 b2 b3 b4 b5 b6 b7 fr))):=⟨BR2.out.put rfl,below_put BU2.out HR.out _⟩
 have gk:=Qu.grown_setCells R (sh b0 b1 b2 b3 b4 b5 b6 b7 fr) 0 u2
 have KE:Hid (Blk (u2.setCells R 0 (sh b0 b1 b2 b3 b4 b5 b6 b7 fr)) A [pp m.rb,pp m.b,pp m.tb,.int .i64 k] 66/\Blk (u2.setCells R 0 (sh b0 b1 b2 b3 b4 b5 b6 b7 fr)) B (sj a0 a1 a2 a3 (.slice (some ⟨g,0,none⟩) 2 c)) 240/\(u2.setCells R 0 (sh b0 b1 b2 b3 b4 b5 b6 b7 fr)).cell? ⟨g,1,none⟩=some (.int .i64 x)):=⟨(gk.block A hHeld.1.lt (fun e=>by have:=sia e;have:=DIS.out;omega)).trans hHeld.1,(gk.block B hHeld.2.1.lt (fun e=>by have:=sia e;have:=DIS.out;omega)).trans hHeld.2.1,(World.cell?_of_block (w:=u2) (a:=⟨g,1,none⟩) (gk.block g (nla DIS.out.2.2.2 BU2.out.size) (fun e=>by have:=sia e;have:=DIS.out;omega))).trans hHeld.2.2⟩
 clear gk
 generalize u2.setCells R 0 (sh b0 b1 b2 b3 b4 b5 b6 b7 fr)=V at *
 refine hK.out _ _ KE.out ?_
 clear hK K hHeld th KE BR2 BU2
 intro hHeld
 try simp only [Act.put,zaa,zba,zca]
 clear hHeld
 refine wpAnyH_done ka ?_ _
 refine NoPanic.normal ?_
 go_wp2_with fail
 refine bodyPost_ret (v:=.agg (sd b0 b1 b2 b3 b4 b5 b6 b7 fr)) (results_one Tryz.results129 _ _ _ _ _ rfl (run_loadVar_mid (P:=Tryz.prog) _ R 0 98 (sh b0 b1 b2 b3 b4 b5 b6 b7 fr) _ F1.out.1.range Tryz.underlying98 rfl ka)) rfl ?_
 exact ⟨rfl,F1.out.2⟩
theorem link_2 (h:Pu X W m s) (hq:s.q<4611686018427387904) (k:Int) (a0 a1 a2 a3:Int) (g c x:Nat) (hx:m.has x=true) (i0:0<=a1) (i1:a1<512) (hg:X g) (hc:W.cell? ⟨g,1,none⟩=some (.int .i64 x)) (p r u a d lg_ gl n:Bool) (fr:Int) (r0:0<=fr) (r1:fr<1048576) :
 Calls Tryz.prog 130 #[pv m k,.agg (si a0 a1 a2 a3 (.slice (some ⟨g,0,none⟩) 2 c)),ev p r u a d lg_ gl n fr] W fun e w'=>e=.returned (.tuple #[])/\Pu X w' m { s with M:=enSet s.M x a1 (packV p r u a d lg_ gl n fr),q:=s.q+2 }/\Kx X W w':=by
 have lg:=h.lt g hg
 have SC:Hid (∀ w:World,bc W w->Calls Tryz.prog 24 #[pv m k,.int .i64 x,.int .i64 a1,ev p r u a d lg_ gl n fr] w fun e w'=>e=.returned (.tuple #[])/\Pu X w' m { s with M:=enSet s.M x a1 (packV p r u a d lg_ gl n fr),q:=s.q+2 }/\Kx X W w'/\Kn W w w'/\w'.heap[g]? =w.heap[g]?):=fun w hb=>(set_any (h.grow hb) hq k x a1 hx i0 i1 p r u a d lg_ gl n fr r0 r1).mono (fun e w' ⟨he,hp,hk⟩=>⟨he,pu_of h hp,kx_of h hb hk,kn_of hk,hk.block g (Or.inl hg)⟩)
 obtain ⟨s',hs'⟩: ∃ s',s'=({ s with M:=enSet s.M x a1 (packV p r u a d lg_ gl n fr),q:=s.q+2 }:Ps):=⟨_,rfl⟩
 rw [<- hs'] at SC |-
 have HB:Hid (bc W (((W.alloc (.cells #[pp m.rb,pp m.b,pp m.tb,.int .i64 k] 66)).alloc (.cells (si a0 a1 a2 a3 (.slice (some ⟨g,0,none⟩) 2 c)) 240)).alloc (.cells (sd p r u a d lg_ gl n fr) 98))):=below_then (below_then baa baa) baa
 have BA:Hid (Blk (((W.alloc (.cells #[pp m.rb,pp m.b,pp m.tb,.int .i64 k] 66)).alloc (.cells (si a0 a1 a2 a3 (.slice (some ⟨g,0,none⟩) 2 c)) 240)).alloc (.cells (sd p r u a d lg_ gl n fr) 98)) W.heap.size [pp m.rb,pp m.b,pp m.tb,.int .i64 k] 66):=((Blk.made W [pp m.rb,pp m.b,pp m.tb,.int .i64 k] 66).below baa).below baa
 have s1:(W.alloc (.cells #[pp m.rb,pp m.b,pp m.tb,.int .i64 k] 66)).heap.size=W.heap.size+1:=World.size_alloc _ _
 have s2:((W.alloc (.cells #[pp m.rb,pp m.b,pp m.tb,.int .i64 k] 66)).alloc (.cells (si a0 a1 a2 a3 (.slice (some ⟨g,0,none⟩) 2 c)) 240)).heap.size=W.heap.size+2:=kj
 have BB:Hid (Blk (((W.alloc (.cells #[pp m.rb,pp m.b,pp m.tb,.int .i64 k] 66)).alloc (.cells (si a0 a1 a2 a3 (.slice (some ⟨g,0,none⟩) 2 c)) 240)).alloc (.cells (sd p r u a d lg_ gl n fr) 98)) (W.heap.size+1) (sj a0 a1 a2 a3 (.slice (some ⟨g,0,none⟩) 2 c)) 240):=by
  rw [<- s1]
  exact (Blk.made (W.alloc (.cells #[pp m.rb,pp m.b,pp m.tb,.int .i64 k] 66)) (sj a0 a1 a2 a3 (.slice (some ⟨g,0,none⟩) 2 c)) 240).below baa
 have BR:Hid (Blk (((W.alloc (.cells #[pp m.rb,pp m.b,pp m.tb,.int .i64 k] 66)).alloc (.cells (si a0 a1 a2 a3 (.slice (some ⟨g,0,none⟩) 2 c)) 240)).alloc (.cells (sd p r u a d lg_ gl n fr) 98)) (W.heap.size+2) (sh p r u a d lg_ gl n fr) 98):=by
  rw [<- s2]
  exact Blk.made _ (sh p r u a d lg_ gl n fr) 98
 have HC:Hid (g<(((W.alloc (.cells #[pp m.rb,pp m.b,pp m.tb,.int .i64 k] 66)).alloc (.cells (si a0 a1 a2 a3 (.slice (some ⟨g,0,none⟩) 2 c)) 240)).alloc (.cells (sd p r u a d lg_ gl n fr) 98)).heap.size/\(((W.alloc (.cells #[pp m.rb,pp m.b,pp m.tb,.int .i64 k] 66)).alloc (.cells (si a0 a1 a2 a3 (.slice (some ⟨g,0,none⟩) 2 c)) 240)).alloc (.cells (sd p r u a d lg_ gl n fr) 98)).cell? ⟨g,1,none⟩=some (.int .i64 x)):=⟨nla lg HB.out.size,below_cell HB.out lg hc⟩
 have DIS:Hid (W.heap.size<=W.heap.size/\W.heap.size<=W.heap.size+1/\W.heap.size<=W.heap.size+2):=⟨by omega,by omega,by omega⟩
 clear h hx i0 i1 lg hc s1 s2 hs' hq r0 r1 hg
 go_enter Tryz.func130,Tryz.ntmps130
 go_upto_region 2 with fail
 generalize (((W.alloc (.cells #[pp m.rb,pp m.b,pp m.tb,.int .i64 k] 66)).alloc (.cells (si a0 a1 a2 a3 (.slice (some ⟨g,0,none⟩) 2 c)) 240)).alloc (.cells (sd p r u a d lg_ gl n fr) 98))=W3 at HB BA BB BR HC |-
 generalize hR:W.heap.size+2=R at BR DIS |-
 generalize hB:W.heap.size+1=B at BB DIS |-
 obtain ⟨A,hA⟩: ∃ A,W.heap.size=A:=⟨_,rfl⟩
 have DIS:Hid (W.heap.size<=A/\W.heap.size<=B/\W.heap.size<=R):=⟨by omega,DIS.out.2⟩
 rw [hA] at BA |-
 clear hR hB hA
 refine hda (fun cw=>Blk cw A [pp m.rb,pp m.b,pp m.tb,.int .i64 k] 66/\Blk cw B (sj a0 a1 a2 a3 (.slice (some ⟨g,0,none⟩) 2 c)) 240/\cw.cell? ⟨g,1,none⟩=some (.int .i64 x)/\Blk cw R (sh p r u a d lg_ gl n fr) 98) (⟨BA.out,BB.out,HC.out.2,BR.out⟩) fun hHeld=> ?_
 have BU:Hid (bc W W3.drew):=below_drew HB.out
 clear HB
 change Hid (Blk W3.drew A [pp m.rb,pp m.b,pp m.tb,.int .i64 k] 66) at BA
 change Hid (Blk W3.drew B (sj a0 a1 a2 a3 (.slice (some ⟨g,0,none⟩) 2 c)) 240) at BB
 change Hid (Blk W3.drew R (sh p r u a d lg_ gl n fr) 98) at BR
 change Hid (g<W3.drew.heap.size/\W3.drew.cell? ⟨g,1,none⟩=some (.int .i64 x)) at HC
 generalize W3.drew=U at hHeld BU BA BB BR HC |-
 refine tla 0 11 (.agg #[pp m.rb,pp m.b,pp m.tb,.int .i64 k]) rfl ?_ ?_
 . exact kl
 refine tma 1 12 rfl ?_
 refine tla 2 13 ((.slice (some ⟨g,0,none⟩) 2 c)) rfl ?_ ?_
 . exact kn
 refine tma 3 14 rfl ?_
 refine tma 4 15 rfl ?_
 refine tla 5 16 (.int .i64 x) rfl ?_ ?_
 . exact ku
 refine tma 6 17 rfl ?_
 refine tma 7 18 rfl ?_
 refine tma 8 19 rfl ?_
 refine tla 9 20 (.int .i64 a1) rfl ?_ ?_
 . exact kw
 refine tla 10 21 (.agg (sd p r u a d lg_ gl n fr)) rfl ?_ ?_
 . exact kv
 refine rda 11 ⟨some 22,_,_,_,_,none⟩ rfl fun K hK=> ?_
 go_simp
 go_wp2_with (go_at_call 24;refine Calls.mono (SC.out _ BU.out) ?_;rintro e u2 ⟨rfl,hp,hk,hn,hg⟩)
 have E2:Hid (Pu X u2 m s'/\Kx X W u2):=⟨hp,hk⟩
 have KE:Hid (Blk u2 A [pp m.rb,pp m.b,pp m.tb,.int .i64 k] 66/\Blk u2 B (sj a0 a1 a2 a3 (.slice (some ⟨g,0,none⟩) 2 c)) 240/\u2.cell? ⟨g,1,none⟩=some (.int .i64 x)/\Blk u2 R (sh p r u a d lg_ gl n fr) 98):=⟨(hn A DIS.out.1 hHeld.1.lt).trans hHeld.1,(hn B DIS.out.2.1 hHeld.2.1.lt).trans hHeld.2.1,(World.cell?_of_block (w:=U) (a:=⟨g,1,none⟩) hg).trans hHeld.2.2.1,(hn R DIS.out.2.2 hHeld.2.2.2.lt).trans hHeld.2.2.2⟩
 refine hK.out _ _ KE.out ?_
 clear hK K hHeld hp hk hn hg BU BR BA BB HC KE
 intro hHeld
 try simp only [Act.put,zaa,zba,zca]
 clear hHeld
 refine wpAnyH_done ka ?_ _
 refine NoPanic.normal ?_
 go_wp2_with fail
 go_returns
 exact ⟨rfl,E2.out⟩
theorem last_3 (h:Pu X W m s) (k:Int) (a0 a1 a2 a3:Int) (g c x:Nat) (hx:m.has x=true) (i0:0<=a2) (i1:a2<512) (lg:g<W.heap.size) (hc:W.cell? ⟨g,2,none⟩=some (.int .i64 x)) :
 Calls Tryz.prog 129 #[pv m k,.agg (si a0 a1 a2 a3 (.slice (some ⟨g,0,none⟩) 3 c))] W (re (unp (En s.M x a2)) W):=by
 have GC:Hid (∀ w:World,bc W w->Calls Tryz.prog 139 #[pv m k,.int .i64 x,.int .i64 a2] w (re (unp (En s.M x a2)) w)):=fun w hb=>get_any (h.below hb) k x a2 hx i0 i1
 obtain ⟨b0,b1,b2,b3,b4,b5,b6,b7,fr,hv⟩:=pow_bt (En s.M x a2)
 rw [hv] at GC |-
 have HB:Hid (bc W (((W.alloc (.cells #[pp m.rb,pp m.b,pp m.tb,.int .i64 k] 66)).alloc (.cells (si a0 a1 a2 a3 (.slice (some ⟨g,0,none⟩) 3 c)) 240)).alloc (.cells sg1 98))):=below_then (below_then baa baa) baa
 have BA:Hid (Blk (((W.alloc (.cells #[pp m.rb,pp m.b,pp m.tb,.int .i64 k] 66)).alloc (.cells (si a0 a1 a2 a3 (.slice (some ⟨g,0,none⟩) 3 c)) 240)).alloc (.cells sg1 98)) W.heap.size [pp m.rb,pp m.b,pp m.tb,.int .i64 k] 66):=((Blk.made W [pp m.rb,pp m.b,pp m.tb,.int .i64 k] 66).below baa).below baa
 have s1:(W.alloc (.cells #[pp m.rb,pp m.b,pp m.tb,.int .i64 k] 66)).heap.size=W.heap.size+1:=World.size_alloc _ _
 have s2:((W.alloc (.cells #[pp m.rb,pp m.b,pp m.tb,.int .i64 k] 66)).alloc (.cells (si a0 a1 a2 a3 (.slice (some ⟨g,0,none⟩) 3 c)) 240)).heap.size=W.heap.size+2:=kj
 have BB:Hid (Blk (((W.alloc (.cells #[pp m.rb,pp m.b,pp m.tb,.int .i64 k] 66)).alloc (.cells (si a0 a1 a2 a3 (.slice (some ⟨g,0,none⟩) 3 c)) 240)).alloc (.cells sg1 98)) (W.heap.size+1) (sj a0 a1 a2 a3 (.slice (some ⟨g,0,none⟩) 3 c)) 240):=by
  rw [<- s1]
  exact (Blk.made (W.alloc (.cells #[pp m.rb,pp m.b,pp m.tb,.int .i64 k] 66)) (sj a0 a1 a2 a3 (.slice (some ⟨g,0,none⟩) 3 c)) 240).below baa
 have BR:Hid (Blk (((W.alloc (.cells #[pp m.rb,pp m.b,pp m.tb,.int .i64 k] 66)).alloc (.cells (si a0 a1 a2 a3 (.slice (some ⟨g,0,none⟩) 3 c)) 240)).alloc (.cells sg1 98)) (W.heap.size+2) sh1 98):=by
  rw [<- s2]
  exact Blk.made _ sh1 98
 have HR:Hid (W.heap.size<=W.heap.size+2):=Nat.le_add_right _ _
 have HC:Hid (g<(((W.alloc (.cells #[pp m.rb,pp m.b,pp m.tb,.int .i64 k] 66)).alloc (.cells (si a0 a1 a2 a3 (.slice (some ⟨g,0,none⟩) 3 c)) 240)).alloc (.cells sg1 98)).heap.size/\(((W.alloc (.cells #[pp m.rb,pp m.b,pp m.tb,.int .i64 k] 66)).alloc (.cells (si a0 a1 a2 a3 (.slice (some ⟨g,0,none⟩) 3 c)) 240)).alloc (.cells sg1 98)).cell? ⟨g,2,none⟩=some (.int .i64 x)):=⟨nla lg HB.out.size,below_cell HB.out lg hc⟩
 have DIS:Hid (W.heap.size≠W.heap.size+2/\W.heap.size+1≠W.heap.size+2/\g<W.heap.size+2/\g<W.heap.size):=⟨by omega,by omega,by omega,lg⟩
 clear h hx i0 i1 lg hc hv s1 s2
 go_enter Tryz.func129,Tryz.ntmps129
 go_upto_region 2 with fail
 generalize (((W.alloc (.cells #[pp m.rb,pp m.b,pp m.tb,.int .i64 k] 66)).alloc (.cells (si a0 a1 a2 a3 (.slice (some ⟨g,0,none⟩) 3 c)) 240)).alloc (.cells sg1 98))=W3 at HB BA BB BR HC |-
 generalize hR:W.heap.size+2=R at BR HR DIS |-
 generalize hB:W.heap.size+1=B at BB DIS |-
 obtain ⟨A,hA⟩: ∃ A,W.heap.size=A:=⟨_,rfl⟩
 have DIS:Hid (A≠R/\B≠R/\g<R/\g<W.heap.size):=by rw [<- hA];exact DIS.out
 rw [hA] at BA |-
 clear hR hB hA
 refine hda (fun d=>Blk d A [pp m.rb,pp m.b,pp m.tb,.int .i64 k] 66/\Blk d B (sj a0 a1 a2 a3 (.slice (some ⟨g,0,none⟩) 3 c)) 240/\d.cell? ⟨g,2,none⟩=some (.int .i64 x)) (⟨BA.out,BB.out,HC.out.2⟩) fun hHeld=> ?_
 have BU:Hid (bc W W3.drew):=below_drew HB.out
 clear HB
 change Hid (Blk W3.drew A [pp m.rb,pp m.b,pp m.tb,.int .i64 k] 66) at BA
 change Hid (Blk W3.drew B (sj a0 a1 a2 a3 (.slice (some ⟨g,0,none⟩) 3 c)) 240) at BB
 change Hid (Blk W3.drew R sh1 98) at BR
 change Hid (g<W3.drew.heap.size/\W3.drew.cell? ⟨g,2,none⟩=some (.int .i64 x)) at HC
 generalize W3.drew=U at hHeld BU BA BB BR HC |-
 refine tla 0 10 (.agg #[pp m.rb,pp m.b,pp m.tb,.int .i64 k]) rfl ?_ ?_
 . exact kl
 refine tma 1 11 rfl ?_
 refine tla 2 12 ((.slice (some ⟨g,0,none⟩) 3 c)) rfl ?_ ?_
 . exact kn
 refine tma 3 13 rfl ?_
 refine tma 4 14 rfl ?_
 refine tla 5 15 (.int .i64 x) rfl ?_ ?_
 . exact kq
 refine tma 6 16 rfl ?_
 refine tma 7 17 rfl ?_
 refine tma 8 18 rfl ?_
 refine tla 9 19 (.int .i64 a2) rfl ?_ ?_
 . intro w hSw;(try dsimp only at hSw);have r:=Blk.cell hSw.2.1 2;(try go_simp);(try simp [*])
 refine rda 10 ⟨some 20,_,_,_,_,none⟩ rfl fun K hK=> ?_
 go_simp
 go_wp2_with (go_at_call 139;refine Calls.mono (GC.out _ BU.out) ?_;rintro e u2 ⟨rfl,hb2⟩)
 have BU2:Hid (bc W u2):=below_then BU.out hb2
 have BR2:Hid (Blk u2 R sh1 98):=BR.out.below hb2
 have KE:Hid (Blk u2 A [pp m.rb,pp m.b,pp m.tb,.int .i64 k] 66/\Blk u2 B (sj a0 a1 a2 a3 (.slice (some ⟨g,0,none⟩) 3 c)) 240/\u2.cell? ⟨g,2,none⟩=some (.int .i64 x)):=⟨hHeld.1.below hb2,hHeld.2.1.below hb2,below_cell hb2 HC.out.1 hHeld.2.2⟩
 refine hK.out _ _ KE.out ?_
 clear hK K hHeld hb2 BU BR BA BB KE
 intro hHeld
 try simp only [Act.put,zaa,zba,zca]
 refine rda 11 ⟨none,.store 98 (.tmp 4) (.tmp 20),_,_,_,none⟩ rfl fun K hK=> ?_
 refine wanted_mp rfl ?_
 have th:u2.there R 0 9:=BR2.out.there
 refine wp_store_mid _ _ _ rfl R 0 (sd b0 b1 b2 b3 b4 b5 b6 b7 fr) rfl rfl th ka kr ?_
 (try simp only [List.toList_toArray])
 have F1:Hid (Blk (u2.setCells R 0 (sh b0 b1 b2 b3 b4 b5 b6 b7 fr)) R (sh b0 b1 b2 b3 b4 b5 b6 b7 fr) 98/\bc W (u2.setCells R 0 (sh b0 b1 b2 b3 b4 b5 b6 b7 fr))):=⟨BR2.out.put rfl,below_put BU2.out HR.out _⟩
 have gk:=Qu.grown_setCells R (sh b0 b1 b2 b3 b4 b5 b6 b7 fr) 0 u2
 have KE:Hid (Blk (u2.setCells R 0 (sh b0 b1 b2 b3 b4 b5 b6 b7 fr)) A [pp m.rb,pp m.b,pp m.tb,.int .i64 k] 66/\Blk (u2.setCells R 0 (sh b0 b1 b2 b3 b4 b5 b6 b7 fr)) B (sj a0 a1 a2 a3 (.slice (some ⟨g,0,none⟩) 3 c)) 240/\(u2.setCells R 0 (sh b0 b1 b2 b3 b4 b5 b6 b7 fr)).cell? ⟨g,2,none⟩=some (.int .i64 x)):=⟨(gk.block A hHeld.1.lt (fun e=>by have:=sia e;have:=DIS.out;omega)).trans hHeld.1,(gk.block B hHeld.2.1.lt (fun e=>by have:=sia e;have:=DIS.out;omega)).trans hHeld.2.1,(World.cell?_of_block (w:=u2) (a:=⟨g,2,none⟩) (gk.block g (nla DIS.out.2.2.2 BU2.out.size) (fun e=>by have:=sia e;have:=DIS.out;omega))).trans hHeld.2.2⟩
 clear gk
 generalize u2.setCells R 0 (sh b0 b1 b2 b3 b4 b5 b6 b7 fr)=V at *
 refine hK.out _ _ KE.out ?_
 clear hK K hHeld th KE BR2 BU2
 intro hHeld
 try simp only [Act.put,zaa,zba,zca]
 clear hHeld
 refine wpAnyH_done ka ?_ _
 refine NoPanic.normal ?_
 go_wp2_with fail
 refine bodyPost_ret (v:=.agg (sd b0 b1 b2 b3 b4 b5 b6 b7 fr)) (results_one Tryz.results129 _ _ _ _ _ rfl (run_loadVar_mid (P:=Tryz.prog) _ R 0 98 (sh b0 b1 b2 b3 b4 b5 b6 b7 fr) _ F1.out.1.range Tryz.underlying98 rfl ka)) rfl ?_
 exact ⟨rfl,F1.out.2⟩
theorem link_3 (h:Pu X W m s) (hq:s.q<4611686018427387904) (k:Int) (a0 a1 a2 a3:Int) (g c x:Nat) (hx:m.has x=true) (i0:0<=a2) (i1:a2<512) (hg:X g) (hc:W.cell? ⟨g,2,none⟩=some (.int .i64 x)) (p r u a d lg_ gl n:Bool) (fr:Int) (r0:0<=fr) (r1:fr<1048576) :
 Calls Tryz.prog 130 #[pv m k,.agg (si a0 a1 a2 a3 (.slice (some ⟨g,0,none⟩) 3 c)),ev p r u a d lg_ gl n fr] W fun e w'=>e=.returned (.tuple #[])/\Pu X w' m { s with M:=enSet s.M x a2 (packV p r u a d lg_ gl n fr),q:=s.q+2 }/\Kx X W w':=by
 have lg:=h.lt g hg
 have SC:Hid (∀ w:World,bc W w->Calls Tryz.prog 24 #[pv m k,.int .i64 x,.int .i64 a2,ev p r u a d lg_ gl n fr] w fun e w'=>e=.returned (.tuple #[])/\Pu X w' m { s with M:=enSet s.M x a2 (packV p r u a d lg_ gl n fr),q:=s.q+2 }/\Kx X W w'/\Kn W w w'/\w'.heap[g]? =w.heap[g]?):=fun w hb=>(set_any (h.grow hb) hq k x a2 hx i0 i1 p r u a d lg_ gl n fr r0 r1).mono (fun e w' ⟨he,hp,hk⟩=>⟨he,pu_of h hp,kx_of h hb hk,kn_of hk,hk.block g (Or.inl hg)⟩)
 obtain ⟨s',hs'⟩: ∃ s',s'=({ s with M:=enSet s.M x a2 (packV p r u a d lg_ gl n fr),q:=s.q+2 }:Ps):=⟨_,rfl⟩
 rw [<- hs'] at SC |-
 have HB:Hid (bc W (((W.alloc (.cells #[pp m.rb,pp m.b,pp m.tb,.int .i64 k] 66)).alloc (.cells (si a0 a1 a2 a3 (.slice (some ⟨g,0,none⟩) 3 c)) 240)).alloc (.cells (sd p r u a d lg_ gl n fr) 98))):=below_then (below_then baa baa) baa
 have BA:Hid (Blk (((W.alloc (.cells #[pp m.rb,pp m.b,pp m.tb,.int .i64 k] 66)).alloc (.cells (si a0 a1 a2 a3 (.slice (some ⟨g,0,none⟩) 3 c)) 240)).alloc (.cells (sd p r u a d lg_ gl n fr) 98)) W.heap.size [pp m.rb,pp m.b,pp m.tb,.int .i64 k] 66):=((Blk.made W [pp m.rb,pp m.b,pp m.tb,.int .i64 k] 66).below baa).below baa
 have s1:(W.alloc (.cells #[pp m.rb,pp m.b,pp m.tb,.int .i64 k] 66)).heap.size=W.heap.size+1:=World.size_alloc _ _
 have s2:((W.alloc (.cells #[pp m.rb,pp m.b,pp m.tb,.int .i64 k] 66)).alloc (.cells (si a0 a1 a2 a3 (.slice (some ⟨g,0,none⟩) 3 c)) 240)).heap.size=W.heap.size+2:=kj
 have BB:Hid (Blk (((W.alloc (.cells #[pp m.rb,pp m.b,pp m.tb,.int .i64 k] 66)).alloc (.cells (si a0 a1 a2 a3 (.slice (some ⟨g,0,none⟩) 3 c)) 240)).alloc (.cells (sd p r u a d lg_ gl n fr) 98)) (W.heap.size+1) (sj a0 a1 a2 a3 (.slice (some ⟨g,0,none⟩) 3 c)) 240):=by
  rw [<- s1]
  exact (Blk.made (W.alloc (.cells #[pp m.rb,pp m.b,pp m.tb,.int .i64 k] 66)) (sj a0 a1 a2 a3 (.slice (some ⟨g,0,none⟩) 3 c)) 240).below baa
 have BR:Hid (Blk (((W.alloc (.cells #[pp m.rb,pp m.b,pp m.tb,.int .i64 k] 66)).alloc (.cells (si a0 a1 a2 a3 (.slice (some ⟨g,0,none⟩) 3 c)) 240)).alloc (.cells (sd p r u a d lg_ gl n fr) 98)) (W.heap.size+2) (sh p r u a d lg_ gl n fr) 98):=by
  rw [<- s2]
  exact Blk.made _ (sh p r u a d lg_ gl n fr) 98
 have HC:Hid (g<(((W.alloc (.cells #[pp m.rb,pp m.b,pp m.tb,.int .i64 k] 66)).alloc (.cells (si a0 a1 a2 a3 (.slice (some ⟨g,0,none⟩) 3 c)) 240)).alloc (.cells (sd p r u a d lg_ gl n fr) 98)).heap.size/\(((W.alloc (.cells #[pp m.rb,pp m.b,pp m.tb,.int .i64 k] 66)).alloc (.cells (si a0 a1 a2 a3 (.slice (some ⟨g,0,none⟩) 3 c)) 240)).alloc (.cells (sd p r u a d lg_ gl n fr) 98)).cell? ⟨g,2,none⟩=some (.int .i64 x)):=⟨nla lg HB.out.size,below_cell HB.out lg hc⟩
 have DIS:Hid (W.heap.size<=W.heap.size/\W.heap.size<=W.heap.size+1/\W.heap.size<=W.heap.size+2):=⟨by omega,by omega,by omega⟩
 clear h hx i0 i1 lg hc s1 s2 hs' hq r0 r1 hg
 go_enter Tryz.func130,Tryz.ntmps130
 go_upto_region 2 with fail
 generalize (((W.alloc (.cells #[pp m.rb,pp m.b,pp m.tb,.int .i64 k] 66)).alloc (.cells (si a0 a1 a2 a3 (.slice (some ⟨g,0,none⟩) 3 c)) 240)).alloc (.cells (sd p r u a d lg_ gl n fr) 98))=W3 at HB BA BB BR HC |-
 generalize hR:W.heap.size+2=R at BR DIS |-
 generalize hB:W.heap.size+1=B at BB DIS |-
 obtain ⟨A,hA⟩: ∃ A,W.heap.size=A:=⟨_,rfl⟩
 have DIS:Hid (W.heap.size<=A/\W.heap.size<=B/\W.heap.size<=R):=⟨by omega,DIS.out.2⟩
 rw [hA] at BA |-
 clear hR hB hA
 refine hda (fun cw=>Blk cw A [pp m.rb,pp m.b,pp m.tb,.int .i64 k] 66/\Blk cw B (sj a0 a1 a2 a3 (.slice (some ⟨g,0,none⟩) 3 c)) 240/\cw.cell? ⟨g,2,none⟩=some (.int .i64 x)/\Blk cw R (sh p r u a d lg_ gl n fr) 98) (⟨BA.out,BB.out,HC.out.2,BR.out⟩) fun hHeld=> ?_
 have BU:Hid (bc W W3.drew):=below_drew HB.out
 clear HB
 change Hid (Blk W3.drew A [pp m.rb,pp m.b,pp m.tb,.int .i64 k] 66) at BA
 change Hid (Blk W3.drew B (sj a0 a1 a2 a3 (.slice (some ⟨g,0,none⟩) 3 c)) 240) at BB
 change Hid (Blk W3.drew R (sh p r u a d lg_ gl n fr) 98) at BR
 change Hid (g<W3.drew.heap.size/\W3.drew.cell? ⟨g,2,none⟩=some (.int .i64 x)) at HC
 generalize W3.drew=U at hHeld BU BA BB BR HC |-
 refine tla 0 11 (.agg #[pp m.rb,pp m.b,pp m.tb,.int .i64 k]) rfl ?_ ?_
 . exact kl
 refine tma 1 12 rfl ?_
 refine tla 2 13 ((.slice (some ⟨g,0,none⟩) 3 c)) rfl ?_ ?_
 . exact kn
 refine tma 3 14 rfl ?_
 refine tma 4 15 rfl ?_
 refine tla 5 16 (.int .i64 x) rfl ?_ ?_
 . exact ku
 refine tma 6 17 rfl ?_
 refine tma 7 18 rfl ?_
 refine tma 8 19 rfl ?_
 refine tla 9 20 (.int .i64 a2) rfl ?_ ?_
 . intro w hSw;(try dsimp only at hSw);have r:=Blk.cell hSw.2.1 2;(try go_simp);(try simp [*])
 refine tla 10 21 (.agg (sd p r u a d lg_ gl n fr)) rfl ?_ ?_
 . exact kv
 refine rda 11 ⟨some 22,_,_,_,_,none⟩ rfl fun K hK=> ?_
 go_simp
 go_wp2_with (go_at_call 24;refine Calls.mono (SC.out _ BU.out) ?_;rintro e u2 ⟨rfl,hp,hk,hn,hg⟩)
 have E2:Hid (Pu X u2 m s'/\Kx X W u2):=⟨hp,hk⟩
 have KE:Hid (Blk u2 A [pp m.rb,pp m.b,pp m.tb,.int .i64 k] 66/\Blk u2 B (sj a0 a1 a2 a3 (.slice (some ⟨g,0,none⟩) 3 c)) 240/\u2.cell? ⟨g,2,none⟩=some (.int .i64 x)/\Blk u2 R (sh p r u a d lg_ gl n fr) 98):=⟨(hn A DIS.out.1 hHeld.1.lt).trans hHeld.1,(hn B DIS.out.2.1 hHeld.2.1.lt).trans hHeld.2.1,(World.cell?_of_block (w:=U) (a:=⟨g,2,none⟩) hg).trans hHeld.2.2.1,(hn R DIS.out.2.2 hHeld.2.2.2.lt).trans hHeld.2.2.2⟩
 refine hK.out _ _ KE.out ?_
 clear hK K hHeld hp hk hn hg BU BR BA BB HC KE
 intro hHeld
 try simp only [Act.put,zaa,zba,zca]
 clear hHeld
 refine wpAnyH_done ka ?_ _
 refine NoPanic.normal ?_
 go_wp2_with fail
 go_returns
 exact ⟨rfl,E2.out⟩
theorem last_4 (h:Pu X W m s) (k:Int) (a0 a1 a2 a3:Int) (g c x:Nat) (hx:m.has x=true) (i0:0<=a3) (i1:a3<512) (lg:g<W.heap.size) (hc:W.cell? ⟨g,3,none⟩=some (.int .i64 x)) :
 Calls Tryz.prog 129 #[pv m k,.agg (si a0 a1 a2 a3 (.slice (some ⟨g,0,none⟩) 4 c))] W (re (unp (En s.M x a3)) W):=by
 have GC:Hid (∀ w:World,bc W w->Calls Tryz.prog 139 #[pv m k,.int .i64 x,.int .i64 a3] w (re (unp (En s.M x a3)) w)):=fun w hb=>get_any (h.below hb) k x a3 hx i0 i1
 obtain ⟨b0,b1,b2,b3,b4,b5,b6,b7,fr,hv⟩:=pow_bt (En s.M x a3)
 rw [hv] at GC |-
 have HB:Hid (bc W (((W.alloc (.cells #[pp m.rb,pp m.b,pp m.tb,.int .i64 k] 66)).alloc (.cells (si a0 a1 a2 a3 (.slice (some ⟨g,0,none⟩) 4 c)) 240)).alloc (.cells sg1 98))):=below_then (below_then baa baa) baa
 have BA:Hid (Blk (((W.alloc (.cells #[pp m.rb,pp m.b,pp m.tb,.int .i64 k] 66)).alloc (.cells (si a0 a1 a2 a3 (.slice (some ⟨g,0,none⟩) 4 c)) 240)).alloc (.cells sg1 98)) W.heap.size [pp m.rb,pp m.b,pp m.tb,.int .i64 k] 66):=((Blk.made W [pp m.rb,pp m.b,pp m.tb,.int .i64 k] 66).below baa).below baa
 have s1:(W.alloc (.cells #[pp m.rb,pp m.b,pp m.tb,.int .i64 k] 66)).heap.size=W.heap.size+1:=World.size_alloc _ _
 have s2:((W.alloc (.cells #[pp m.rb,pp m.b,pp m.tb,.int .i64 k] 66)).alloc (.cells (si a0 a1 a2 a3 (.slice (some ⟨g,0,none⟩) 4 c)) 240)).heap.size=W.heap.size+2:=kj
 have BB:Hid (Blk (((W.alloc (.cells #[pp m.rb,pp m.b,pp m.tb,.int .i64 k] 66)).alloc (.cells (si a0 a1 a2 a3 (.slice (some ⟨g,0,none⟩) 4 c)) 240)).alloc (.cells sg1 98)) (W.heap.size+1) (sj a0 a1 a2 a3 (.slice (some ⟨g,0,none⟩) 4 c)) 240):=by
  rw [<- s1]
  exact (Blk.made (W.alloc (.cells #[pp m.rb,pp m.b,pp m.tb,.int .i64 k] 66)) (sj a0 a1 a2 a3 (.slice (some ⟨g,0,none⟩) 4 c)) 240).below baa
 have BR:Hid (Blk (((W.alloc (.cells #[pp m.rb,pp m.b,pp m.tb,.int .i64 k] 66)).alloc (.cells (si a0 a1 a2 a3 (.slice (some ⟨g,0,none⟩) 4 c)) 240)).alloc (.cells sg1 98)) (W.heap.size+2) sh1 98):=by
  rw [<- s2]
  exact Blk.made _ sh1 98
 have HR:Hid (W.heap.size<=W.heap.size+2):=Nat.le_add_right _ _
 have HC:Hid (g<(((W.alloc (.cells #[pp m.rb,pp m.b,pp m.tb,.int .i64 k] 66)).alloc (.cells (si a0 a1 a2 a3 (.slice (some ⟨g,0,none⟩) 4 c)) 240)).alloc (.cells sg1 98)).heap.size/\(((W.alloc (.cells #[pp m.rb,pp m.b,pp m.tb,.int .i64 k] 66)).alloc (.cells (si a0 a1 a2 a3 (.slice (some ⟨g,0,none⟩) 4 c)) 240)).alloc (.cells sg1 98)).cell? ⟨g,3,none⟩=some (.int .i64 x)):=⟨nla lg HB.out.size,below_cell HB.out lg hc⟩
 have DIS:Hid (W.heap.size≠W.heap.size+2/\W.heap.size+1≠W.heap.size+2/\g<W.heap.size+2/\g<W.heap.size):=⟨by omega,by omega,by omega,lg⟩
 clear h hx i0 i1 lg hc hv s1 s2
 go_enter Tryz.func129,Tryz.ntmps129
 go_upto_region 2 with fail
 generalize (((W.alloc (.cells #[pp m.rb,pp m.b,pp m.tb,.int .i64 k] 66)).alloc (.cells (si a0 a1 a2 a3 (.slice (some ⟨g,0,none⟩) 4 c)) 240)).alloc (.cells sg1 98))=W3 at HB BA BB BR HC |-
 generalize hR:W.heap.size+2=R at BR HR DIS |-
 generalize hB:W.heap.size+1=B at BB DIS |-
 obtain ⟨A,hA⟩: ∃ A,W.heap.size=A:=⟨_,rfl⟩
 have DIS:Hid (A≠R/\B≠R/\g<R/\g<W.heap.size):=by rw [<- hA];exact DIS.out
 rw [hA] at BA |-
 clear hR hB hA
 refine hda (fun d=>Blk d A [pp m.rb,pp m.b,pp m.tb,.int .i64 k] 66/\Blk d B (sj a0 a1 a2 a3 (.slice (some ⟨g,0,none⟩) 4 c)) 240/\d.cell? ⟨g,3,none⟩=some (.int .i64 x)) (⟨BA.out,BB.out,HC.out.2⟩) fun hHeld=> ?_
 have BU:Hid (bc W W3.drew):=below_drew HB.out
 clear HB
 change Hid (Blk W3.drew A [pp m.rb,pp m.b,pp m.tb,.int .i64 k] 66) at BA
 change Hid (Blk W3.drew B (sj a0 a1 a2 a3 (.slice (some ⟨g,0,none⟩) 4 c)) 240) at BB
 change Hid (Blk W3.drew R sh1 98) at BR
 change Hid (g<W3.drew.heap.size/\W3.drew.cell? ⟨g,3,none⟩=some (.int .i64 x)) at HC
 generalize W3.drew=U at hHeld BU BA BB BR HC |-
 refine tla 0 10 (.agg #[pp m.rb,pp m.b,pp m.tb,.int .i64 k]) rfl ?_ ?_
 . exact kl
 refine tma 1 11 rfl ?_
 refine tla 2 12 ((.slice (some ⟨g,0,none⟩) 4 c)) rfl ?_ ?_
 . exact kn
 refine tma 3 13 rfl ?_
 refine tma 4 14 rfl ?_
 refine tla 5 15 (.int .i64 x) rfl ?_ ?_
 . exact kq
 refine tma 6 16 rfl ?_
 refine tma 7 17 rfl ?_
 refine tma 8 18 rfl ?_
 refine tla 9 19 (.int .i64 a3) rfl ?_ ?_
 . intro w hSw;(try dsimp only at hSw);have r:=Blk.cell hSw.2.1 3;(try go_simp);(try simp [*])
 refine rda 10 ⟨some 20,_,_,_,_,none⟩ rfl fun K hK=> ?_
 go_simp
 go_wp2_with (go_at_call 139;refine Calls.mono (GC.out _ BU.out) ?_;rintro e u2 ⟨rfl,hb2⟩)
 have BU2:Hid (bc W u2):=below_then BU.out hb2
 have BR2:Hid (Blk u2 R sh1 98):=BR.out.below hb2
 have KE:Hid (Blk u2 A [pp m.rb,pp m.b,pp m.tb,.int .i64 k] 66/\Blk u2 B (sj a0 a1 a2 a3 (.slice (some ⟨g,0,none⟩) 4 c)) 240/\u2.cell? ⟨g,3,none⟩=some (.int .i64 x)):=⟨hHeld.1.below hb2,hHeld.2.1.below hb2,below_cell hb2 HC.out.1 hHeld.2.2⟩
 refine hK.out _ _ KE.out ?_
 clear hK K hHeld hb2 BU BR BA BB KE
 intro hHeld
 try simp only [Act.put,zaa,zba,zca]
 refine rda 11 ⟨none,.store 98 (.tmp 4) (.tmp 20),_,_,_,none⟩ rfl fun K hK=> ?_
 refine wanted_mp rfl ?_
 have th:u2.there R 0 9:=BR2.out.there
 refine wp_store_mid _ _ _ rfl R 0 (sd b0 b1 b2 b3 b4 b5 b6 b7 fr) rfl rfl th ka kr ?_
 (try simp only [List.toList_toArray])
 have F1:Hid (Blk (u2.setCells R 0 (sh b0 b1 b2 b3 b4 b5 b6 b7 fr)) R (sh b0 b1 b2 b3 b4 b5 b6 b7 fr) 98/\bc W (u2.setCells R 0 (sh b0 b1 b2 b3 b4 b5 b6 b7 fr))):=⟨BR2.out.put rfl,below_put BU2.out HR.out _⟩
 have gk:=Qu.grown_setCells R (sh b0 b1 b2 b3 b4 b5 b6 b7 fr) 0 u2
 have KE:Hid (Blk (u2.setCells R 0 (sh b0 b1 b2 b3 b4 b5 b6 b7 fr)) A [pp m.rb,pp m.b,pp m.tb,.int .i64 k] 66/\Blk (u2.setCells R 0 (sh b0 b1 b2 b3 b4 b5 b6 b7 fr)) B (sj a0 a1 a2 a3 (.slice (some ⟨g,0,none⟩) 4 c)) 240/\(u2.setCells R 0 (sh b0 b1 b2 b3 b4 b5 b6 b7 fr)).cell? ⟨g,3,none⟩=some (.int .i64 x)):=⟨(gk.block A hHeld.1.lt (fun e=>by have:=sia e;have:=DIS.out;omega)).trans hHeld.1,(gk.block B hHeld.2.1.lt (fun e=>by have:=sia e;have:=DIS.out;omega)).trans hHeld.2.1,(World.cell?_of_block (w:=u2) (a:=⟨g,3,none⟩) (gk.block g (nla DIS.out.2.2.2 BU2.out.size) (fun e=>by have:=sia e;have:=DIS.out;omega))).trans hHeld.2.2⟩
 clear gk
 generalize u2.setCells R 0 (sh b0 b1 b2 b3 b4 b5 b6 b7 fr)=V at *
 refine hK.out _ _ KE.out ?_
 clear hK K hHeld th KE BR2 BU2
 intro hHeld
 try simp only [Act.put,zaa,zba,zca]
 clear hHeld
 refine wpAnyH_done ka ?_ _
 refine NoPanic.normal ?_
 go_wp2_with fail
 refine bodyPost_ret (v:=.agg (sd b0 b1 b2 b3 b4 b5 b6 b7 fr)) (results_one Tryz.results129 _ _ _ _ _ rfl (run_loadVar_mid (P:=Tryz.prog) _ R 0 98 (sh b0 b1 b2 b3 b4 b5 b6 b7 fr) _ F1.out.1.range Tryz.underlying98 rfl ka)) rfl ?_
 exact ⟨rfl,F1.out.2⟩
theorem link_4 (h:Pu X W m s) (hq:s.q<4611686018427387904) (k:Int) (a0 a1 a2 a3:Int) (g c x:Nat) (hx:m.has x=true) (i0:0<=a3) (i1:a3<512) (hg:X g) (hc:W.cell? ⟨g,3,none⟩=some (.int .i64 x)) (p r u a d lg_ gl n:Bool) (fr:Int) (r0:0<=fr) (r1:fr<1048576) :
 Calls Tryz.prog 130 #[pv m k,.agg (si a0 a1 a2 a3 (.slice (some ⟨g,0,none⟩) 4 c)),ev p r u a d lg_ gl n fr] W fun e w'=>e=.returned (.tuple #[])/\Pu X w' m { s with M:=enSet s.M x a3 (packV p r u a d lg_ gl n fr),q:=s.q+2 }/\Kx X W w':=by
 have lg:=h.lt g hg
 have SC:Hid (∀ w:World,bc W w->Calls Tryz.prog 24 #[pv m k,.int .i64 x,.int .i64 a3,ev p r u a d lg_ gl n fr] w fun e w'=>e=.returned (.tuple #[])/\Pu X w' m { s with M:=enSet s.M x a3 (packV p r u a d lg_ gl n fr),q:=s.q+2 }/\Kx X W w'/\Kn W w w'/\w'.heap[g]? =w.heap[g]?):=fun w hb=>(set_any (h.grow hb) hq k x a3 hx i0 i1 p r u a d lg_ gl n fr r0 r1).mono (fun e w' ⟨he,hp,hk⟩=>⟨he,pu_of h hp,kx_of h hb hk,kn_of hk,hk.block g (Or.inl hg)⟩)
 obtain ⟨s',hs'⟩: ∃ s',s'=({ s with M:=enSet s.M x a3 (packV p r u a d lg_ gl n fr),q:=s.q+2 }:Ps):=⟨_,rfl⟩
 rw [<- hs'] at SC |-
 have HB:Hid (bc W (((W.alloc (.cells #[pp m.rb,pp m.b,pp m.tb,.int .i64 k] 66)).alloc (.cells (si a0 a1 a2 a3 (.slice (some ⟨g,0,none⟩) 4 c)) 240)).alloc (.cells (sd p r u a d lg_ gl n fr) 98))):=below_then (below_then baa baa) baa
 have BA:Hid (Blk (((W.alloc (.cells #[pp m.rb,pp m.b,pp m.tb,.int .i64 k] 66)).alloc (.cells (si a0 a1 a2 a3 (.slice (some ⟨g,0,none⟩) 4 c)) 240)).alloc (.cells (sd p r u a d lg_ gl n fr) 98)) W.heap.size [pp m.rb,pp m.b,pp m.tb,.int .i64 k] 66):=((Blk.made W [pp m.rb,pp m.b,pp m.tb,.int .i64 k] 66).below baa).below baa
 have s1:(W.alloc (.cells #[pp m.rb,pp m.b,pp m.tb,.int .i64 k] 66)).heap.size=W.heap.size+1:=World.size_alloc _ _
 have s2:((W.alloc (.cells #[pp m.rb,pp m.b,pp m.tb,.int .i64 k] 66)).alloc (.cells (si a0 a1 a2 a3 (.slice (some ⟨g,0,none⟩) 4 c)) 240)).heap.size=W.heap.size+2:=kj
 have BB:Hid (Blk (((W.alloc (.cells #[pp m.rb,pp m.b,pp m.tb,.int .i64 k] 66)).alloc (.cells (si a0 a1 a2 a3 (.slice (some ⟨g,0,none⟩) 4 c)) 240)).alloc (.cells (sd p r u a d lg_ gl n fr) 98)) (W.heap.size+1) (sj a0 a1 a2 a3 (.slice (some ⟨g,0,none⟩) 4 c)) 240):=by
  rw [<- s1]
  exact (Blk.made (W.alloc (.cells #[pp m.rb,pp m.b,pp m.tb,.int .i64 k] 66)) (sj a0 a1 a2 a3 (.slice (some ⟨g,0,none⟩) 4 c)) 240).below baa
 have BR:Hid (Blk (((W.alloc (.cells #[pp m.rb,pp m.b,pp m.tb,.int .i64 k] 66)).alloc (.cells (si a0 a1 a2 a3 (.slice (some ⟨g,0,none⟩) 4 c)) 240)).alloc (.cells (sd p r u a d lg_ gl n fr) 98)) (W.heap.size+2) (sh p r u a d lg_ gl n fr) 98):=by
  rw [<- s2]
  exact Blk.made _ (sh p r u a d lg_ gl n fr) 98
 have HC:Hid (g<(((W.alloc (.cells #[pp m.rb,pp m.b,pp m.tb,.int .i64 k] 66)).alloc (.cells (si a0 a1 a2 a3 (.slice (some ⟨g,0,none⟩) 4 c)) 240)).alloc (.cells (sd p r u a d lg_ gl n fr) 98)).heap.size/\(((W.alloc (.cells #[pp m.rb,pp m.b,pp m.tb,.int .i64 k] 66)).alloc (.cells (si a0 a1 a2 a3 (.slice (some ⟨g,0,none⟩) 4 c)) 240)).alloc (.cells (sd p r u a d lg_ gl n fr) 98)).cell? ⟨g,3,none⟩=some (.int .i64 x)):=⟨nla lg HB.out.size,below_cell HB.out lg hc⟩
 have DIS:Hid (W.heap.size<=W.heap.size/\W.heap.size<=W.heap.size+1/\W.heap.size<=W.heap.size+2):=⟨by omega,by omega,by omega⟩
 clear h hx i0 i1 lg hc s1 s2 hs' hq r0 r1 hg
 go_enter Tryz.func130,Tryz.ntmps130
 go_upto_region 2 with fail
 generalize (((W.alloc (.cells #[pp m.rb,pp m.b,pp m.tb,.int .i64 k] 66)).alloc (.cells (si a0 a1 a2 a3 (.slice (some ⟨g,0,none⟩) 4 c)) 240)).alloc (.cells (sd p r u a d lg_ gl n fr) 98))=W3 at HB BA BB BR HC |-
 generalize hR:W.heap.size+2=R at BR DIS |-
 generalize hB:W.heap.size+1=B at BB DIS |-
 obtain ⟨A,hA⟩: ∃ A,W.heap.size=A:=⟨_,rfl⟩
 have DIS:Hid (W.heap.size<=A/\W.heap.size<=B/\W.heap.size<=R):=⟨by omega,DIS.out.2⟩
 rw [hA] at BA |-
 clear hR hB hA
 refine hda (fun cw=>Blk cw A [pp m.rb,pp m.b,pp m.tb,.int .i64 k] 66/\Blk cw B (sj a0 a1 a2 a3 (.slice (some ⟨g,0,none⟩) 4 c)) 240/\cw.cell? ⟨g,3,none⟩=some (.int .i64 x)/\Blk cw R (sh p r u a d lg_ gl n fr) 98) (⟨BA.out,BB.out,HC.out.2,BR.out⟩) fun hHeld=> ?_
 have BU:Hid (bc W W3.drew):=below_drew HB.out
 clear HB
 change Hid (Blk W3.drew A [pp m.rb,pp m.b,pp m.tb,.int .i64 k] 66) at BA
 change Hid (Blk W3.drew B (sj a0 a1 a2 a3 (.slice (some ⟨g,0,none⟩) 4 c)) 240) at BB
 change Hid (Blk W3.drew R (sh p r u a d lg_ gl n fr) 98) at BR
 change Hid (g<W3.drew.heap.size/\W3.drew.cell? ⟨g,3,none⟩=some (.int .i64 x)) at HC
 generalize W3.drew=U at hHeld BU BA BB BR HC |-
 refine tla 0 11 (.agg #[pp m.rb,pp m.b,pp m.tb,.int .i64 k]) rfl ?_ ?_
 . exact kl
 refine tma 1 12 rfl ?_
 refine tla 2 13 ((.slice (some ⟨g,0,none⟩) 4 c)) rfl ?_ ?_
 . exact kn
 refine tma 3 14 rfl ?_
 refine tma 4 15 rfl ?_
 refine tla 5 16 (.int .i64 x) rfl ?_ ?_
 . exact ku
 refine tma 6 17 rfl ?_
 refine tma 7 18 rfl ?_
 refine tma 8 19 rfl ?_
 refine tla 9 20 (.int .i64 a3) rfl ?_ ?_
 . intro w hSw;(try dsimp only at hSw);have r:=Blk.cell hSw.2.1 3;(try go_simp);(try simp [*])
 refine tla 10 21 (.agg (sd p r u a d lg_ gl n fr)) rfl ?_ ?_
 . exact kv
 refine rda 11 ⟨some 22,_,_,_,_,none⟩ rfl fun K hK=> ?_
 go_simp
 go_wp2_with (go_at_call 24;refine Calls.mono (SC.out _ BU.out) ?_;rintro e u2 ⟨rfl,hp,hk,hn,hg⟩)
 have E2:Hid (Pu X u2 m s'/\Kx X W u2):=⟨hp,hk⟩
 have KE:Hid (Blk u2 A [pp m.rb,pp m.b,pp m.tb,.int .i64 k] 66/\Blk u2 B (sj a0 a1 a2 a3 (.slice (some ⟨g,0,none⟩) 4 c)) 240/\u2.cell? ⟨g,3,none⟩=some (.int .i64 x)/\Blk u2 R (sh p r u a d lg_ gl n fr) 98):=⟨(hn A DIS.out.1 hHeld.1.lt).trans hHeld.1,(hn B DIS.out.2.1 hHeld.2.1.lt).trans hHeld.2.1,(World.cell?_of_block (w:=U) (a:=⟨g,3,none⟩) hg).trans hHeld.2.2.1,(hn R DIS.out.2.2 hHeld.2.2.2.lt).trans hHeld.2.2.2⟩
 refine hK.out _ _ KE.out ?_
 clear hK K hHeld hp hk hn hg BU BR BA BB HC KE
 intro hHeld
 try simp only [Act.put,zaa,zba,zca]
 clear hHeld
 refine wpAnyH_done ka ?_ _
 refine NoPanic.normal ?_
 go_wp2_with fail
 go_returns
 exact ⟨rfl,E2.out⟩
def IR (w:World) (g:Nat) (L:List Nat):Prop:=g<w.heap.size/\ ∀ i (hi:i<L.length),w.cell? ⟨g,i,none⟩=some (.int .i64 (L[i]:Nat))
theorem IR.below {w w':World} {g:Nat} {L:List Nat} (h:IR w g L) (hb:bc w w'):IR w' g L:=⟨nla h.1 hb.size,fun i hi=>below_cell hb h.1 (h.2 i hi)⟩
abbrev At:=Nat->Int
abbrev tv (at_:At) (g l c:Nat):Value:=.agg (si (at_ 0) (at_ 1) (at_ 2) (at_ 3) (.slice (some ⟨g,0,none⟩) l c))
theorem last_any (h:Pu X W m s) (k:Int) (at_:At) (g c:Nat) (L:List Nat) (l:Nat) (hl:L.length=l+1) (l3:l<4) (hL:m.has (L[l]'(by omega):Nat)=true) (ha:0<=at_ l/\at_ l<512) (hr:IR W g L) :
 Calls Tryz.prog 129 #[pv m k,tv at_ g (l+1) c] W (re (unp (En s.M (L[l]'(by omega):Nat) (at_ l))) W):=by
 have hc:=hr.2 l (by omega)
 generalize (L[l]'(by omega):Nat)=x at hL hc |-
 rcases (show l=0\/l=1\/l=2\/l=3 by omega) with rfl | rfl | rfl | rfl
 . exact last_1 h k _ _ _ _ g c x hL ha.1 ha.2 hr.1 hc
 . exact last_2 h k _ _ _ _ g c x hL ha.1 ha.2 hr.1 hc
 . exact last_3 h k _ _ _ _ g c x hL ha.1 ha.2 hr.1 hc
 . exact last_4 h k _ _ _ _ g c x hL ha.1 ha.2 hr.1 hc
theorem link_any (h:Pu X W m s) (hq:s.q<4611686018427387904) (k:Int) (at_:At) (g c:Nat) (L:List Nat) (l:Nat) (hl:L.length=l+1) (l3:l<4) (hL:m.has (L[l]'(by omega):Nat)=true) (ha:0<=at_ l/\at_ l<512) (hr:IR W g L) (hg:X g) (p r u a d lg gl n:Bool) (fr:Int) (r0:0<=fr) (r1:fr<1048576) :
 Calls Tryz.prog 130 #[pv m k,tv at_ g (l+1) c,ev p r u a d lg gl n fr] W fun e w'=>e=.returned (.tuple #[])/\Pu X w' m { s with M:=enSet s.M (L[l]'(by omega):Nat) (at_ l) (packV p r u a d lg gl n fr),q:=s.q+2 }/\Kx X W w':=by
 have hc:=hr.2 l (by omega)
 generalize (L[l]'(by omega):Nat)=x at hL hc |-
 rcases (show l=0\/l=1\/l=2\/l=3 by omega) with rfl | rfl | rfl | rfl
 . exact link_1 h hq k _ _ _ _ g c x hL ha.1 ha.2 hg hc p r u a d lg gl n fr r0 r1
 . exact link_2 h hq k _ _ _ _ g c x hL ha.1 ha.2 hg hc p r u a d lg gl n fr r0 r1
 . exact link_3 h hq k _ _ _ _ g c x hL ha.1 ha.2 hg hc p r u a d lg gl n fr r0 r1
 . exact link_4 h hq k _ _ _ _ g c x hL ha.1 ha.2 hg hc p r u a d lg gl n fr r0 r1
end
end Go.Proofs.YtgbdnnkkcpkhdaaGreatDoor.Tt
namespace Go.Proofs.YtgbdnnkkcpkhdaaGreatDoor.Tt
open Go.Proofs.YtgbdnnkkcpkhdaaGreatDoor.Li (wpList_app)
def nx (x:Int):Nat:=(x / 4096 % 1048576).toNat
theorem nx_cast (x:Int):((nx x:Nat):Int)=x / 4096 % 1048576:=by unfold nx;omega
def Pth (M:Int->Int) (root:Nat) (at_:At) (L:List Nat):Prop:=L[0]? =some root/\ ∀ (i:Nat) (x y:Nat),L[i]? =some x->L[i+1]? =some y->bt (En M x (at_ i))=true/\y=nx (En M x (at_ i))
theorem pth_one (M:Int->Int) (root:Nat) (at_:At):Pth M root at_ [root]:=⟨rfl,fun i x y _ e=>by simp at e⟩
theorem pth_snoc {M:Int->Int} {root:Nat} {at_:At} {L:List Nat} (h:Pth M root at_ L) {l:Nat} (hl:L.length=l+1) (hb:bt (En M (L[l]'(by omega):Nat) (at_ l))=true):Pth M root at_ (L++[nx (En M (L[l]'(by omega):Nat) (at_ l))]):=by
 refine ⟨by rw [List.getElem?_append_left (by omega)];exact h.1,fun i x y e1 e2=> ?_⟩
 by_cases c:i+1<L.length
 . rw [List.getElem?_append_left (by omega)] at e1
   rw [List.getElem?_append_left c] at e2
   exact h.2 i x y e1 e2
 . by_cases d:i+1=L.length
   . have hi:i=l:=by omega
     subst hi
     rw [List.getElem?_append_left (by omega),List.getElem?_eq_getElem (by omega)] at e1
     rw [d,List.getElem?_append_right (Nat.le_refl _)] at e2
     simp at e1 e2
     subst e1 e2
     exact ⟨hb,rfl⟩
   . rw [List.getElem?_eq_none (by rw [List.length_append];simp;omega)] at e2
     cases e2
structure FI (W0:World) (A T R:Nat) (m:Pm) (k:Int) (at_:At) (L:List Nat) (v:Value) (w:World):Prop where
 bA:Blk w A [pp m.rb,pp m.b,pp m.tb,.int .i64 k] 66
 bT:Blk w T [.int .i64 (at_ 0),.int .i64 (at_ 1),.int .i64 (at_ 2),.int .i64 (at_ 3),v] 240
 bR:Blk w R (sj 0 0 0 0 (.slice none 0 0)) 240
 own:Li.OI w W0.heap.size v (ints L)
 bel:bc W0 w
 nA:v.ownBlock≠some A
 nT:v.ownBlock≠some T
 nR:v.ownBlock≠some R
 lo:W0.heap.size<=A/\W0.heap.size<=T/\W0.heap.size<=R/\A≠T/\R≠T
theorem FI.below {W0 w w':World} {A T R:Nat} {m:Pm} {k:Int} {at_:At} {L:List Nat} {v:Value} (H:FI W0 A T R m k at_ L v w) (hb:bc w w'):FI W0 A T R m k at_ L v w' :=
 ⟨H.bA.below hb,H.bT.below hb,H.bR.below hb,Li.row_below H.own hb,below_then H.bel hb,H.nA,H.nT,H.nR,H.lo⟩
theorem FI.form {W0 w:World} {A T R:Nat} {m:Pm} {k:Int} {at_:At} {L:List Nat} {v:Value} (H:FI W0 A T R m k at_ L v w) (h0:0<L.length): ∃ g c,v=.slice (some ⟨g,0,none⟩) L.length c/\IR w g L/\W0.heap.size<=g:=by
 obtain ⟨p,c,hv,_⟩:=(Li.ol_ll Li.eI_len H.own).form
 rw [List.length_map] at hv
 have ho:=H.own
 rw [hv] at ho
 obtain ⟨g,rfl,lg,_⟩:=ii_read ho 0 h0
 refine ⟨g,c,hv,⟨lg,fun i hi=> ?_⟩,(Li.row_lt ho g rfl).1⟩
 obtain ⟨g',e,_,hc⟩:=ii_read ho i hi
 cases e
 exact hc
theorem FI.app {W0 w:World} {A T R:Nat} {m:Pm} {k:Int} {at_:At} {L:List Nat} {v:Value} (H:FI W0 A T R m k at_ L v w) (hL:L.length<=1000) (p:Nat) :
 ∃ v' W2,(Builtin.append_ #[22,22] 22 #[v,.slice (some ⟨w.heap.size,0,none⟩) 1 1]).run Tryz.prog (w.alloc (.cells #[.int .i64 p] 3))=.ok v' W2/\FI W0 A T R m k at_ (L++[p]) v' (W2.setCell ⟨T,4,none⟩ v')/\(∃ x,W2.cell? ⟨T,4,none⟩=some x)/\W2.frozen? ⟨T,4,none⟩=false/\T<W2.heap.size:=by
 obtain ⟨v',W2,r,ho,hg,hat⟩:=Li.app_row Li.eI_len Li.eI_one (by decide) Tryz.underlying22 Li.infoI rfl (by decide) W0.heap.size v (ints L) (p:Int) (by rw [List.length_map];omega) w H.own H.bel.size
 have s1:(w.alloc (.cells (Li.eI p).toArray 3)).heap.size=w.heap.size+1:=World.size_alloc _ _
 have b1:bc w (w.alloc (.cells (Li.eI p).toArray 3)):=baa
 have vb: ∀ g,v.ownBlock=some g->W0.heap.size<=g:=fun g e=>(Li.row_lt H.own g e).1
 have same: ∀ j,j<w.heap.size->v.ownBlock≠some j->W2.heap[j]? =w.heap[j]? :=fun j hj ne=>(hg.block j (by rw [s1];omega) (fun e=>ne e.symm)).trans (b1.block j hj)
 have sz:w.heap.size<=W2.heap.size:=Nat.le_trans b1.size hg.size
 have bA:Blk W2 A [pp m.rb,pp m.b,pp m.tb,.int .i64 k] 66:=(same A H.bA.lt H.nA).trans H.bA
 have bT:Blk W2 T [.int .i64 (at_ 0),.int .i64 (at_ 1),.int .i64 (at_ 2),.int .i64 (at_ 3),v] 240:=(same T H.bT.lt H.nT).trans H.bT
 have bR:Blk W2 R (sj 0 0 0 0 (.slice none 0 0)) 240:=(same R H.bR.lt H.nR).trans H.bR
 have new: ∀ j,j<w.heap.size->v.ownBlock≠some j->v'.ownBlock≠some j:=fun j hj ne e=>by
  rcases hat with q | q
  . rw [q] at e;exact ne e
  . rw [q] at e;have:=sia e;omega
 have nA:=new A H.bA.lt H.nA
 have nT:=new T H.bT.lt H.nT
 have nR:=new R H.bR.lt H.nR
 have bl2:bc W0 W2:=H.bel.trans ⟨hg.os.trans b1.os,hg.tape.trans b1.tape,hg.output.trans b1.output,sz,fun j hj=>same j (nla hj H.bel.size) (fun e=>by have:=vb j e;omega)⟩
 have gs:=Qu.grown_setCell1 W2 T 4 v'
 refine ⟨v',W2,r,⟨(gs.block A bA.lt (fun e=>H.lo.2.2.2.1 (by have:=sia e;omega))).trans bA,?_,(gs.block R bR.lt (fun e=>H.lo.2.2.2.2 (by have:=sia e;omega))).trans bR,?_,bl2.setCell (p:=⟨T,4,none⟩) H.lo.2.1 _,nA,nT,nR,H.lo⟩,⟨v,bT.cell 4⟩,bT.free 4,bT.lt⟩
 . exact bT.set 4 v'
 . have e:ints (L++[p])=ints L++[(p:Int)]:=by simp [ints]
   rw [e]
   exact Li.row_keep ho (fun g e=>gs.block g (Li.row_lt ho g e).2 (fun q=>nT (by rw [e,q])))
theorem follow_any {X:Nat->Prop} {W:World} {m:Pm} {s:Ps} (h:Pu X W m s) (k:Int) (root:Nat) (p:Nat) (hp:p<34359738368) (at_:At) (h0:at_ 0=p / 512 / 512 / 512 % 512) (h1:at_ 1=p / 512 / 512 % 512) (h2:at_ 2=p / 512 % 512) (h3:at_ 3=p % 512)
 (hh: ∀ L,Pth s.M root at_ L->L.length<=4-> ∀ x∈L,m.has (x:Nat)=true) :
 Calls Tryz.prog 128 #[pv m k,.int .i64 root,.int .i64 p] W fun e w'=> ∃ (g c:Nat) (L:List Nat),e=.returned (tv at_ g L.length c)/\IR w' g L/\Li.OI w' W.heap.size (.slice (some ⟨g,0,none⟩) L.length c) (ints L)/\W.heap.size<=g/\Pth s.M root at_ L/\1<=L.length/\L.length<=4/\(∀ l (hl:L.length=l+1),L.length<4->bt (En s.M (L[l]'(by omega):Nat) (at_ l))=false)/\bc W w':=by
 have HAT:Hid (∀ i,i<4->0<=at_ i/\at_ i<512):=fun i hi=>by
  rcases (show i=0\/i=1\/i=2\/i=3 by omega) with rfl | rfl | rfl | rfl
  . rw [h0];omega
  . rw [h1];omega
  . rw [h2];omega
  . rw [h3];omega
 have e1:IntKind.u64.wrap (p:Int)=(p:Int):=ki
 have e2:IntKind.u64.wrap ((p:Int)*4096)=(p:Int)*4096:=ki
 have SC:Hid (∀ w:World,Calls Tryz.prog 63 #[.int .u64 ((p:Int)*4096)] w (re (.tuple #[.agg (sc (at_ 0) (at_ 1) (at_ 2) (at_ 3)),.int .i64 0]) w)):=fun w=>by
  have q:=split_any ((p:Int)*4096) (by omega) (by omega) w
  rw [show (p:Int)*4096 / 4096=p by omega,show (p:Int)*4096 % 4096=0 by omega,<- h0,<- h1,<- h2,<- h3] at q
  exact q
 have LC:Hid (∀ (w:World) (L:List Nat) (g c l:Nat) (hl:L.length=l+1),l<3->Pth s.M root at_ L->IR w g L->bc W w->Calls Tryz.prog 129 #[pv m k,tv at_ g (l+1) c] w (re (unp (En s.M (L[l]'(by omega):Nat) (at_ l))) w)):=fun w L g c l hl l3 hP hr hb=>last_any (h.below hb) k at_ g c L l hl (by omega) (hh L hP (by omega) _ (List.getElem_mem _)) (HAT.out l (by omega)) hr
 have EB:Hid (∀ f i,0<=En s.M f i/\En s.M f i<18446744073709551616):=fun f i=>en_bd h.byte f i
 have HB:Hid (bc W ((W.alloc (.cells #[pp m.rb,pp m.b,pp m.tb,.int .i64 k] 66)).alloc (.cells (si 0 0 0 0 (.slice none 0 0)) 240))):=below_then baa baa
 have BA:Hid (Blk ((W.alloc (.cells #[pp m.rb,pp m.b,pp m.tb,.int .i64 k] 66)).alloc (.cells (si 0 0 0 0 (.slice none 0 0)) 240)) W.heap.size [pp m.rb,pp m.b,pp m.tb,.int .i64 k] 66):=(Blk.made W [pp m.rb,pp m.b,pp m.tb,.int .i64 k] 66).below baa
 have BR:Hid (Blk ((W.alloc (.cells #[pp m.rb,pp m.b,pp m.tb,.int .i64 k] 66)).alloc (.cells (si 0 0 0 0 (.slice none 0 0)) 240)) (W.heap.size+1) (sj 0 0 0 0 (.slice none 0 0)) 240):=by
  have s1:(W.alloc (.cells #[pp m.rb,pp m.b,pp m.tb,.int .i64 k] 66)).heap.size=W.heap.size+1:=World.size_alloc _ _
  rw [<- s1]
  exact Blk.made _ (sj 0 0 0 0 (.slice none 0 0)) 240
 clear h h0 h1 h2 h3 hh hp
 go_enter Tryz.func128,Tryz.ntmps128
 go_upto_region 1 with fail
 generalize (W.alloc (.cells #[pp m.rb,pp m.b,pp m.tb,.int .i64 k] 66)).alloc (.cells (si 0 0 0 0 (.slice none 0 0)) 240)=W2 at HB BA BR |-
 obtain ⟨R,hR⟩: ∃ R,W.heap.size+1=R:=⟨_,rfl⟩
 obtain ⟨A,hA⟩: ∃ A,W.heap.size=A:=⟨_,rfl⟩
 have LO:Hid (W.heap.size<=A/\W.heap.size<=R):=⟨by omega,by omega⟩
 rw [hR] at BR |-
 rw [hA] at BA |-
 clear hR hA
 go_wp2_with fail
 refine Calls.mono (SC.out W2) ?_
 rintro e w1 ⟨rfl,hb1⟩
 obtain ⟨w4,hw4⟩: ∃ w4,w4=((w1.alloc (.cells (sc (at_ 0) (at_ 1) (at_ 2) (at_ 3)) 156)).alloc (.cells #[.int .i64 (root:Nat)] 3)).alloc (.cells (si (at_ 0) (at_ 1) (at_ 2) (at_ 3) (.slice (some ⟨w1.heap.size+1,0,none⟩) 1 1)) 240):=⟨_,rfl⟩
 have F0:Hid (FI W A (w1.heap.size+1+1) R m k at_ [root] (.slice (some ⟨w1.heap.size+1,0,none⟩) 1 1) w4):=by
  have q1:(w1.alloc (.cells (sc (at_ 0) (at_ 1) (at_ 2) (at_ 3)) 156)).heap.size=w1.heap.size+1:=World.size_alloc _ _
  have q2:((w1.alloc (.cells (sc (at_ 0) (at_ 1) (at_ 2) (at_ 3)) 156)).alloc (.cells #[.int .i64 (root:Nat)] 3)).heap.size=w1.heap.size+2:=by rw [World.size_alloc,q1]
  have bb:bc w1 w4:=by rw [hw4];exact below_then (below_then baa baa) baa
  have ba:=BA.out.below hb1
  have br:=BR.out.below hb1
  have la:=ba.lt
  have lr:=br.lt
  have sz:=(below_then HB.out hb1).size
  refine ⟨ba.below bb,?_,br.below bb,?_,below_then (below_then HB.out hb1) bb,?_,?_,?_,⟨LO.out.1,by omega,LO.out.2,by omega,by omega⟩⟩
  . rw [hw4,<- q2]
    exact Blk.made _ (sj (at_ 0) (at_ 1) (at_ 2) (at_ 3) (.slice (some ⟨w1.heap.size+1,0,none⟩) 1 1)) 240
  . have q:=Li.ol_one (T:=3) Li.eI_len (w1.alloc (.cells (sc (at_ 0) (at_ 1) (at_ 2) (at_ 3)) 156)) W.heap.size (by rw [q1];omega) (root:Int)
    rw [q1] at q
    rw [hw4]
    exact Li.row_below q baa
  . intro e;have e':some (w1.heap.size+1)=some A:=e;have:=sia e';omega
  . intro e;have e':some (w1.heap.size+1)=some (w1.heap.size+2):=e;have:=sia e';omega
  . intro e;have e':some (w1.heap.size+1)=some R:=e;have:=sia e';omega
 clear HB BA BR LO hb1
 go_upto_region 3 with fail
 rw [<- hw4]
 generalize w1.heap.size+1+1=T at F0 |-
 clear hw4
 obtain ⟨v0,hv0⟩: ∃ v0,v0=Value.slice (some ⟨w1.heap.size+1,0,none⟩) 1 1:=⟨_,rfl⟩
 rw [<- hv0] at F0
 go_loopw [10] (fun _ w=> ∃ (L:List Nat) (v:Value),1<=L.length/\L.length<=4/\Hid (FI W A T R m k at_ L v w)/\Hid (Pth s.M root at_ L)) (fun _ w=>match w.cell? ⟨T,4,none⟩ with | some (.slice _ n _)=>4-n | _=>0)
 case atStart=>exact ⟨[root],v0,by simp,by simp,F0,pth_one _ _ _⟩
 case round =>
  clear F0 hv0
  obtain ⟨L,v,l1,l4,F,HP⟩:=hrel
  obtain ⟨g,c,hv,hr,lg⟩:=F.out.form (by omega)
  subst hv
  obtain ⟨l,hl⟩: ∃ l,L.length=l+1:=⟨L.length-1,by omega⟩
  have HL:Hid (L.length=l+1):=hl
  have LCC:l<3->Calls Tryz.prog 129 #[pv m k,tv at_ g (l+1) c] wr (re (unp (En s.M (L[l]'(by omega):Nat) (at_ l))) wr):=fun l3=>LC.out wr L g c l hl l3 HP.out hr F.out.bel
  obtain ⟨x,hx⟩: ∃ x,En s.M (L[l]'(by omega):Nat) (at_ l)=x:=⟨_,rfl⟩
  rw [hx] at LCC
  have HX:Hid (∃ hq:l<L.length,En s.M (L[l]'hq:Nat) (at_ l)=x):=⟨by omega,hx⟩
  rw [<- hl] at LCC
  obtain ⟨n,hn⟩: ∃ n,L.length=n:=⟨_,rfl⟩
  have HN:Hid (L.length=n/\n=l+1):=⟨hn,by omega⟩
  have HR:Hid (IR wr g L/\W.heap.size<=g):=⟨hr,lg⟩
  have BT:Blk wr T (sj (at_ 0) (at_ 1) (at_ 2) (at_ 3) (.slice (some ⟨g,0,none⟩) n c)) 240:=by have:=F.out.bT;rw [hn] at this;exact this
  rw [hn] at LCC
  have mz:(match wr.cell? ⟨T,4,none⟩ with | some (.slice _ n _)=>4-n | _=>0)=4-n:=by rw [BT.cell 4];rfl
  have HM:Hid ((match wr.cell? ⟨T,4,none⟩ with | some (.slice _ n _)=>4-n | _=>0)=4-n):=mz
  have t0:wr.cell? ⟨T,0,none⟩=some (.int .i64 (at_ 0)):=BT.cell 0
  have t1:wr.cell? ⟨T,1,none⟩=some (.int .i64 (at_ 1)):=BT.cell 1
  have t2:wr.cell? ⟨T,2,none⟩=some (.int .i64 (at_ 2)):=BT.cell 2
  have t3:wr.cell? ⟨T,3,none⟩=some (.int .i64 (at_ 3)):=BT.cell 3
  have t4:wr.cell? ⟨T,4,none⟩=some (.slice (some ⟨g,0,none⟩) n c):=BT.cell 4
  have lT:=BT.lt
  have n1:1<=n:=by omega
  have n4:n<=4:=by omega
  clear hr lg hl hx hn BT mz l1 l4
  by_cases c4:n<4
  rotate_left
  . obtain rfl:n=4:=by omega
    have FD:Hid (∀ l' (hl':L.length=l'+1),L.length<4->bt (En s.M (L[l']'(by omega):Nat) (at_ l'))=false):=fun l' hl' q=>by have:=HN.out.1;omega
    have F1:Hid (Blk (wr.setCells R 0 (sj (at_ 0) (at_ 1) (at_ 2) (at_ 3) (.slice (some ⟨g,0,none⟩) 4 c))) R (sj (at_ 0) (at_ 1) (at_ 2) (at_ 3) (.slice (some ⟨g,0,none⟩) 4 c)) 240/\bc W (wr.setCells R 0 (sj (at_ 0) (at_ 1) (at_ 2) (at_ 3) (.slice (some ⟨g,0,none⟩) 4 c)))/\IR (wr.setCells R 0 (sj (at_ 0) (at_ 1) (at_ 2) (at_ 3) (.slice (some ⟨g,0,none⟩) 4 c))) g L/\Li.OI (wr.setCells R 0 (sj (at_ 0) (at_ 1) (at_ 2) (at_ 3) (.slice (some ⟨g,0,none⟩) 4 c))) W.heap.size (.slice (some ⟨g,0,none⟩) L.length c) (ints L)/\W.heap.size<=g):=by
     have q:=Qu.grown_setCells R (sj (at_ 0) (at_ 1) (at_ 2) (at_ 3) (.slice (some ⟨g,0,none⟩) 4 c)) 0 wr
     refine ⟨F.out.bR.put rfl,below_put F.out.bel F.out.lo.2.2.1 _,⟨nla HR.out.1.1 q.size,fun i hi=> ?_⟩,Li.row_keep F.out.own (fun g' e=>q.block g' (Li.row_lt F.out.own g' e).2 (fun e'=>F.out.nR (by rw [e,e']))),HR.out.2⟩
     rw [World.cell?_of_block (w:=wr) (a:=⟨g,i,none⟩) (q.block g HR.out.1.1 (fun e=>F.out.nR e))]
     exact HR.out.1.2 i hi
    have thR:Hid (wr.there R 0 5/\wr.rangeAt T 0 (sj (at_ 0) (at_ 1) (at_ 2) (at_ 3) (.slice (some ⟨g,0,none⟩) 4 c))):=⟨F.out.bR.there,by have q:=F.out.bT;rw [HN.out.1] at q;exact q.range⟩
    clear F HR
    go_upto_region 7 with fail
    refine wp_region_lit ?_
    refine load_pat T 0 (sj (at_ 0) (at_ 1) (at_ 2) (at_ 3) (.slice (some ⟨g,0,none⟩) 4 c)) _ rfl thR.out.2 Tryz.underlying240 rfl ka ?_
    refine store_pat R 0 (si (at_ 0) (at_ 1) (at_ 2) (at_ 3) (.slice (some ⟨g,0,none⟩) 4 c)) rfl rfl thR.out.1 ka kr ?_
    simp only [List.toList_toArray]
    generalize wr.setCells R 0 (sj (at_ 0) (at_ 1) (at_ 2) (at_ 3) (.slice (some ⟨g,0,none⟩) 4 c))=V2 at F1 |-
    go_wp2_with fail
    refine bodyPost_ret (v:=.agg (si (at_ 0) (at_ 1) (at_ 2) (at_ 3) (.slice (some ⟨g,0,none⟩) 4 c))) (results_one Tryz.results128 _ _ _ _ _ rfl (run_loadVar_mid (P:=Tryz.prog) _ R 0 240 (sj (at_ 0) (at_ 1) (at_ 2) (at_ 3) (.slice (some ⟨g,0,none⟩) 4 c)) _ F1.out.1.range Tryz.underlying240 rfl ka)) rfl ?_
    exact ⟨g,c,L,by rw [HN.out.1],F1.out.2.2.1,F1.out.2.2.2.1,F1.out.2.2.2.2,HP.out,by have:=HN.out.1;omega,by have:=HN.out.1;omega,FD.out,F1.out.2.1⟩
  have d4:decide ((n:Int)<4)=true:=kh
  have LC3:Hid _:=LCC (by have:=HN.out.2;omega)
  obtain ⟨b1,b2,b3,b4,b5,b6,b7,hu⟩: ∃ b1 b2 b3 b4 b5 b6 b7,unp x=.agg (sd (bt x) b1 b2 b3 b4 b5 b6 b7 (nx x:Nat)):=⟨_,_,_,_,_,_,_,by unfold unp;rw [nx_cast]⟩
  rw [hu] at LC3
  have BX:=F.out.bA
  have c0:wr.cell? ⟨A,0,none⟩=some (pp m.rb):=BX.cell 0
  have c1:wr.cell? ⟨A,1,none⟩=some (pp m.b):=BX.cell 1
  have c2:wr.cell? ⟨A,2,none⟩=some (pp m.tb):=BX.cell 2
  have c3:wr.cell? ⟨A,3,none⟩=some (.int .i64 k):=BX.cell 3
  have lA:=BX.lt
  obtain ⟨y,hy⟩: ∃ y:Nat,nx x=y:=⟨_,rfl⟩
  obtain ⟨bb,hbb⟩: ∃ bb:Bool,bt x=bb:=⟨_,rfl⟩
  have HY:Hid (nx x=y/\bt x=bb):=⟨hy,hbb⟩
  rw [hy,hbb] at LC3
  clear BX hu hy hbb LCC
  go_wp2_with fail
  refine Calls.mono LC3.out ?_
  rintro e w2 ⟨rfl,hb2⟩
  clear t0 t1 t2 t3 t4 c0 c1 c2 c3 lT lA
  obtain ⟨V,hV⟩: ∃ V,V=(w2.alloc (.cells sg1 98)).setCells w2.heap.size 0 (sh bb b1 b2 b3 b4 b5 b6 b7 (y:Nat)):=⟨_,rfl⟩
  have HV:Hid (Blk V w2.heap.size (sh bb b1 b2 b3 b4 b5 b6 b7 (y:Nat)) 98/\bc w2 V):=by
   rw [hV]
   have q:=Qu.grown_setCells w2.heap.size (sh bb b1 b2 b3 b4 b5 b6 b7 (y:Nat)) 0 (w2.alloc (.cells sg1 98))
   have q1:bc w2 (w2.alloc (.cells sg1 98)):=baa
   exact ⟨(Blk.made w2 sh1 98).put rfl,q1.trans ⟨q.os,q.tape,q.output,q.size,fun j hj=>q.block j (nla hj q1.size) (fun e=>by have:=sia e;omega)⟩⟩
  have FV:Hid (FI W A T R m k at_ L (.slice (some ⟨g,0,none⟩) L.length c) V):=(F.out.below hb2).below HV.out.2
  have HRV:Hid (IR V g L/\W.heap.size<=g):=⟨(HR.out.1.below hb2).below HV.out.2,HR.out.2⟩
  clear hb2 F HR LC3
  rename_i hcont
  refine hcont _ _ ?_
  clear hcont
  iterate 3 go_step
  refine store_pat w2.heap.size 0 (sd bb b1 b2 b3 b4 b5 b6 b7 (y:Nat)) rfl rfl (Blk.made w2 sh1 98).there ka kr ?_
  simp only [List.toList_toArray]
  rw [<- hV]
  clear hV
  go_upto_region 5 with fail
  have e0:V.cell? ⟨w2.heap.size,0,none⟩=some (.bool bb):=HV.out.1.cell 0
  have e8:V.cell? ⟨w2.heap.size,8,none⟩=some (.int .i64 (y:Nat)):=HV.out.1.cell 8
  have lE:=HV.out.1.lt
  have BT:Blk V T (sj (at_ 0) (at_ 1) (at_ 2) (at_ 3) (.slice (some ⟨g,0,none⟩) n c)) 240:=by have:=FV.out.bT;rw [HN.out.1] at this;exact this
  have t0:V.cell? ⟨T,0,none⟩=some (.int .i64 (at_ 0)):=BT.cell 0
  have t1:V.cell? ⟨T,1,none⟩=some (.int .i64 (at_ 1)):=BT.cell 1
  have t2:V.cell? ⟨T,2,none⟩=some (.int .i64 (at_ 2)):=BT.cell 2
  have t3:V.cell? ⟨T,3,none⟩=some (.int .i64 (at_ 3)):=BT.cell 3
  have t4:V.cell? ⟨T,4,none⟩=some (.slice (some ⟨g,0,none⟩) n c):=BT.cell 4
  have lT:=BT.lt
  clear BT
  generalize w2.heap.size=E at HV e0 e8 lE |-
  cases bb with
  | false =>
   have FD:Hid (∀ l' (hl':L.length=l'+1),L.length<4->bt (En s.M (L[l']'(by omega):Nat) (at_ l'))=false):=fun l' hl' q=>by
    have e:l'=l:=by have:=HL.out;omega
    subst e
    obtain ⟨hq,hx⟩:=HX.out
    rw [hx,HY.out.2]
   have F1:Hid (Blk (V.setCells R 0 (sj (at_ 0) (at_ 1) (at_ 2) (at_ 3) (.slice (some ⟨g,0,none⟩) n c))) R (sj (at_ 0) (at_ 1) (at_ 2) (at_ 3) (.slice (some ⟨g,0,none⟩) n c)) 240/\bc W (V.setCells R 0 (sj (at_ 0) (at_ 1) (at_ 2) (at_ 3) (.slice (some ⟨g,0,none⟩) n c)))/\IR (V.setCells R 0 (sj (at_ 0) (at_ 1) (at_ 2) (at_ 3) (.slice (some ⟨g,0,none⟩) n c))) g L/\Li.OI (V.setCells R 0 (sj (at_ 0) (at_ 1) (at_ 2) (at_ 3) (.slice (some ⟨g,0,none⟩) n c))) W.heap.size (.slice (some ⟨g,0,none⟩) L.length c) (ints L)/\W.heap.size<=g):=by
    have q:=Qu.grown_setCells R (sj (at_ 0) (at_ 1) (at_ 2) (at_ 3) (.slice (some ⟨g,0,none⟩) n c)) 0 V
    refine ⟨FV.out.bR.put rfl,below_put FV.out.bel FV.out.lo.2.2.1 _,⟨nla HRV.out.1.1 q.size,fun i hi=> ?_⟩,Li.row_keep FV.out.own (fun g' e=>q.block g' (Li.row_lt FV.out.own g' e).2 (fun e'=>FV.out.nR (by rw [e,e']))),HRV.out.2⟩
    rw [World.cell?_of_block (w:=V) (a:=⟨g,i,none⟩) (q.block g HRV.out.1.1 (fun e=>FV.out.nR e))]
    exact HRV.out.1.2 i hi
   have thR:Hid (V.there R 0 5/\V.rangeAt T 0 (sj (at_ 0) (at_ 1) (at_ 2) (at_ 3) (.slice (some ⟨g,0,none⟩) n c))):=⟨FV.out.bR.there,by have q:=FV.out.bT;rw [HN.out.1] at q;exact q.range⟩
   clear FV HRV
   go_upto_region 7 with fail
   refine wp_region_lit ?_
   refine load_pat T 0 (sj (at_ 0) (at_ 1) (at_ 2) (at_ 3) (.slice (some ⟨g,0,none⟩) n c)) _ rfl thR.out.2 Tryz.underlying240 rfl ka ?_
   refine store_pat R 0 (si (at_ 0) (at_ 1) (at_ 2) (at_ 3) (.slice (some ⟨g,0,none⟩) n c)) rfl rfl thR.out.1 ka kr ?_
   simp only [List.toList_toArray]
   generalize V.setCells R 0 (sj (at_ 0) (at_ 1) (at_ 2) (at_ 3) (.slice (some ⟨g,0,none⟩) n c))=V2 at F1 |-
   go_wp2_with fail
   refine bodyPost_ret (v:=.agg (si (at_ 0) (at_ 1) (at_ 2) (at_ 3) (.slice (some ⟨g,0,none⟩) n c))) (results_one Tryz.results128 _ _ _ _ _ rfl (run_loadVar_mid (P:=Tryz.prog) _ R 0 240 (sj (at_ 0) (at_ 1) (at_ 2) (at_ 3) (.slice (some ⟨g,0,none⟩) n c)) _ F1.out.1.range Tryz.underlying240 rfl ka)) rfl ?_
   exact ⟨g,c,L,by rw [HN.out.1],F1.out.2.2.1,F1.out.2.2.2.1,F1.out.2.2.2.2,HP.out,by have:=HN.out.1;omega,by have:=HN.out.1;omega,FD.out,F1.out.2.1⟩
  | true =>
   obtain ⟨v',W2,r,F2,⟨z,cz⟩,fz,lz⟩:=FV.out.app (by have:=HN.out.1;omega) y
   rw [HN.out.1] at r
   obtain ⟨g',c',hv',_,_⟩:=F2.form (by simp)
   obtain ⟨n',hn'⟩: ∃ n',(L++[y]).length=n':=⟨_,rfl⟩
   have HN':Hid (n'=n+1):=by show _=_;rw [<- hn',List.length_append,HN.out.1];rfl
   rw [hn'] at hv'
   subst hv'
   clear hn'
   have HF2:Hid (FI W A T R m k at_ (L++[y]) (.slice (some ⟨g',0,none⟩) n' c') (W2.setCell ⟨T,4,none⟩ (.slice (some ⟨g',0,none⟩) n' c'))):=F2
   have HP2:Hid (Pth s.M root at_ (L++[y])):=by
    obtain ⟨hq,hx⟩:=HX.out
    have q:=pth_snoc HP.out HL.out (by rw [hx,HY.out.2])
    rw [hx,HY.out.1] at q
    exact q
   have HM2:Hid ((match (W2.setCell ⟨T,4,none⟩ (.slice (some ⟨g',0,none⟩) n' c')).cell? ⟨T,4,none⟩ with | some (.slice _ n _)=>4-n | _=>0)=4-(n+1)):=by
    rw [F2.bT.cell 4]
    show 4-n'=_
    rw [HN'.out]
   clear F2 FV HV HRV t0 t1 t2 t3
   go_wp2_with (at_builtin;refine wpList_app rfl _ _ 22 rfl (.slice (some ⟨g,0,none⟩) n c) (.slice (some ⟨V.heap.size,0,none⟩) 1 1) rfl rfl (.slice (some ⟨g',0,none⟩) n' c') W2 r ?_)
   go_roundw
   case rel=>exact ⟨L++[y],.slice (some ⟨g',0,none⟩) n' c',by simp,by rw [List.length_append,HN.out.1];simp;omega,HF2,HP2⟩
   case measure=>rw [HM2.out,HM.out];omega
end Go.Proofs.YtgbdnnkkcpkhdaaGreatDoor.Tt
