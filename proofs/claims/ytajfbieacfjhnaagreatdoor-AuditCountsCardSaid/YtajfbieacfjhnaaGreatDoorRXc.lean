import Derived.Test.YtajfbieacfjhnaaGreatDoorMSc
import Derived.Test.YtajfbieacfjhnaaGreatDoorRKc
namespace Go.Proofs.YtajfbieacfjhnaaGreatDoor
open Go.ChangeShapes Go.WideShapes Go.ChangeAt Go.RowKit Go.Maps
set_option linter.unusedSimpArgs false
set_option linter.unusedVariables false
set_option maxRecDepth 8000
def RamX (w:World) (K:Nat->Prop) (rb:Nat) (has:Int->Bool) (F:Int) (M:Int->Int) (n:Nat):Prop:=IsRamK w K rb has F M n/\ ∃ S,HasOk w rb S has/\ ∀ s,s∈S->K s
def RamS (w:World) (K:Nat->Prop) (S:List Nat) (rb:Nat) (has:Int->Bool) (F:Int) (M:Int->Int) (n:Nat):Prop :=
 ∃ (mb:Nat) (pg:Int->Option Nat),HasOk w rb S has/\w.cell? ⟨rb,0,none⟩=some (.int .i64 F)/\w.cell? ⟨rb,2,none⟩=some (.map (some mb))/\Mem w mb n pg /\
  (∀ k b,pg k=some b->b<w.heap.size/\b≠mb/\Page w b (fun i=>M (k*4096+i))) /\
  (∀ k k' b,pg k=some b->pg k'=some b->k=k')/\(∀ k,pg k=none-> ∀ i:Nat,i<4096->M (k*4096+i)=0)/\(∀ t,0<=M t/\M t<256)/\ ¬ K mb/\(∀ k b,pg k=some b-> ¬ K b)
theorem IsRamK.toS {w:World} {K:Nat->Prop} {S:List Nat} {rb n:Nat} {has:Int->Bool} {F:Int} {M:Int->Int} (h:IsRamK w K rb has F M n) (hS:HasOk w rb S has):RamS w K S rb has F M n:=by
 obtain ⟨mb,S',pg,⟨q1,q2,hk,q3,q4,q5,hm,hp,hi,hz,hb⟩,h1,h2,h3⟩:=h
 exact ⟨mb,pg,hS,q4,q5,hm,fun k b e=>⟨(hp k b e).2.1,(hp k b e).2.2.2.1,(hp k b e).2.2.2.2⟩,hi,hz,hb,h1,h2⟩
theorem RamS.poke {w w':World} {K:Nat->Prop} {S:List Nat} {rb n:Nat} {has:Int->Bool} {F:Int} {M:Int->Int} {r:Option Nat} (h:RamS w K S rb has F M n) (hg:w.grownBy w' r) (hr: ∀ f,r=some f->K f/\f∉S):RamS w' K S rb has F M n:=by
 obtain ⟨mb,pg,hk,q4,q5,hm,hp,hi,hz,hb,h1,h2⟩:=h
 have hS: ∀ s,s∈S->some s≠r:=fun s hs e=>(hr s e.symm).2 hs
 have hrb:=hk.2.1 rb hk.1
 refine ⟨mb,pg,hk.keep (fun s hs=>hg.block s (hk.2.1 s hs) (hS s hs)) hg.size,?_,?_,hm.kept hg (fun e=>h1 (hr mb e.symm).1),?_,hi,hz,hb,h1,h2⟩
 . rw [World.cell?_of_block (w:=w) (a:=⟨rb,0,none⟩) (hg.block rb hrb (hS rb hk.1))];exact q4
 . rw [World.cell?_of_block (w:=w) (a:=⟨rb,2,none⟩) (hg.block rb hrb (hS rb hk.1))];exact q5
 . intro k b e
   obtain ⟨r2,r4,r5⟩:=hp k b e
   exact ⟨Nat.lt_of_lt_of_le r2 hg.size,r4,r5.of_block (hg.block b r2 (fun e'=>h2 k b e (hr b e'.symm).1))⟩
theorem RamS.back {w:World} {K K0:Nat->Prop} {S:List Nat} {rb n:Nat} {has:Int->Bool} {F:Int} {M:Int->Int} (h:RamS w K S rb has F M n) (h0: ∀ j,K0 j->K j) (hS: ∀ s,s∈S->K0 s) (hd: ∀ j,K0 j->j<w.heap.size):RamX w K0 rb has F M n:=by
 obtain ⟨mb,pg,hk,q4,q5,hm,hp,hi,hz,hb,h1,h2⟩:=h
 exact ⟨⟨mb,S,pg,⟨Nat.zero_le _,Nat.zero_le _,hk,fun e=>h1 (h0 _ (hS _ e)),q4,q5,hm,fun k b e=>⟨Nat.zero_le _,(hp k b e).1,fun e'=>h2 k b e (h0 _ (hS _ e')),(hp k b e).2⟩,hi,hz,hb⟩,fun e=>h1 (h0 _ e),fun k b e e'=>h2 k b e (h0 _ e'),hd⟩,S,hk,hS⟩
theorem IsRamK.dropped {w w':World} {K:Nat->Prop} {rb mb n:Nat} {has:Int->Bool} {F:Int} {M:Int->Int} {S:List Nat} {pg:Int->Option Nat} {k:Int}
 (hk:HasOk w rb S has) (q3:mb∉S) (q4:w.cell? ⟨rb,0,none⟩=some (.int .i64 F)) (q5:w.cell? ⟨rb,2,none⟩=some (.map (some mb)))
 (hp: ∀ k b,pg k=some b->0<=b/\b<w.heap.size/\b∉S/\b≠mb/\Page w b (fun i=>M (k*4096+i)))
 (hi: ∀ k k' b,pg k=some b->pg k'=some b->k=k') (hz: ∀ k,pg k=none-> ∀ i:Nat,i<4096->M (k*4096+i)=0) (hb: ∀ t,0<=M t/\M t<256)
 (hm':Mem w' mb n (put pg k none)) (hg:w.grownBy w' (some mb)) (h1: ¬ K mb) (h2: ∀ k b,pg k=some b-> ¬ K b) (h3: ∀ j,K j->j<w.heap.size):IsRamK w' K rb has F (mzero M k) n/\Kept K w w':=by
 have hrb:=hk.2.1 rb hk.1
 have hne: ∀ s,s∈S->some s≠some mb:=fun s hs e=>by cases e;exact q3 hs
 have hnerb:=hne rb hk.1
 refine ⟨⟨mb,S,put pg k none,⟨Nat.zero_le _,Nat.zero_le _,hk.keep (fun s hs=>hg.block s (hk.2.1 s hs) (hne s hs)) hg.size,q3,?_,?_,hm',?_,?_,?_,?_⟩,h1,(fun j b e=>by unfold put at e;by_cases c:j=k;(rw [if_pos c] at e;cases e);(rw [if_neg c] at e;exact h2 j b e)),fun j hj=>Nat.lt_of_lt_of_le (h3 j hj) hg.size⟩,⟨hg.os,hg.tape,hg.output,hg.size,fun j hj=>hg.block j (h3 j hj) (fun e=>by cases e;exact h1 hj)⟩⟩
 . rw [World.cell?_of_block (w:=w) (a:=⟨rb,0,none⟩) (hg.block rb hrb hnerb)];exact q4
 . rw [World.cell?_of_block (w:=w) (a:=⟨rb,2,none⟩) (hg.block rb hrb hnerb)];exact q5
 . intro j b hjb
   unfold put at hjb
   by_cases c:j=k
   . rw [if_pos c] at hjb;cases hjb
   . rw [if_neg c] at hjb
     obtain ⟨r1,r2,r3,r4,r5⟩:=hp j b hjb
     refine ⟨r1,Nat.lt_of_lt_of_le r2 hg.size,r3,r4,(r5.of_block (hg.block b r2 (by intro e;cases e;exact r4 rfl))).congr fun i hi'=> ?_⟩
     unfold mzero;rw [if_neg (by omega)]
 . intro j j' b hjb hjb'
   unfold put at hjb hjb'
   by_cases c:j=k
   . rw [if_pos c] at hjb;cases hjb
   . by_cases c':j'=k
     . rw [if_pos c'] at hjb';cases hjb'
     . rw [if_neg c] at hjb;rw [if_neg c'] at hjb';exact hi j j' b hjb hjb'
 . intro j hj i hi'
   unfold put at hj
   unfold mzero
   by_cases c:j=k
   . rw [if_pos (by omega)]
   . rw [if_neg c] at hj
     rw [if_neg (by omega)];exact hz j hj i hi'
 . intro t;unfold mzero;split
   . exact ⟨by omega,by omega⟩
   . exact hb t
set_option maxHeartbeats 400000 in
theorem zero_K {w:World} {K:Nat->Prop} {rb:Nat} {has:Int->Bool} {F:Int} {M:Int->Int} {n:Nat} (h:IsRamK w K rb has F M n) (k:Int) (k0: -9223372036854775808<=k) (k1:k<=9223372036854775807) (hh:has k=true) :
 Calls Tryz.prog 90 #[.pointer (some ⟨rb,0,none⟩),.int .i64 k] w fun e w'=>e=.returned (.int .i64 0)/\IsRamK w' K rb has F (mzero M k) n/\Kept K w w':=by
 obtain ⟨S0,hk0⟩:=h.hasOk
 have hc:Hid (∀ u:Unit,Calls Tryz.prog 141 #[.pointer (some ⟨rb,0,none⟩),.int .i64 k] w fun e w2=>e=.returned (.bool true)/\w.grownBy w2 none):=by
  intro _;rw [<- hh];exact hk0.2.2 w (fun _ _=>rfl) (Nat.le_refl _) k
 have HI:Hid (IsRamK w K rb has F M n):=h
 clear h hk0 hh
 go_enter Tryz.func90,Tryz.ntmps90
 go_wp2_with fail
 refine (hc.out ()).mono ?_
 rintro e w1 ⟨rfl,hg1⟩
 obtain ⟨mb,S,pg,⟨q1,q2,hk,q3,q4,q5,hm,hp,hi,hz,hb⟩,h1,h2,h3⟩:=HI.out.grown hg1
 have hd: ∃ w2,(∀ ty,(Builtin.delete_ #[186,3] ty #[.map (some mb),.int .i64 k]).run Tryz.prog w1=.ok (.tuple #[]) w2)/\IsRamK w2 K rb has F (mzero M k) n/\Kept K w1 w2:=by
  obtain ⟨w2,hr,hm2,hg2⟩:=hm.drop k0 k1 0
  exact ⟨w2,fun ty=>hr,IsRamK.dropped hk q3 q4 q5 hp hi hz hb hm2 hg2 h1 h2 h3⟩
 obtain ⟨w2,hdel,hI2,hb2⟩:=hd
 have HI2:Hid (IsRamK w2 K rb has F (mzero M k) n/\Kept K w w2):=⟨hI2,(kept_of_grown0 hg1 HI.out.dom).trans hb2⟩
 clear h1 h2 h3 hI2 hb2 hp hi hz hb hm hk q1 q2 q3 q4 hg1
 go_wp2_with fail
 go_ret
 exact ⟨rfl,HI2.out⟩
structure Ram5 (w:World) (K:Nat->Prop) (S:List Nat) (rb:Nat) (has:Int->Bool) (F:Int) (M:Int->Int) (n:Nat):Prop where
 ram:IsRamK w K rb has F M n
 ok:HasOk w rb S has
 sub: ∀ s,s∈S->K s
theorem Ram5.mono {w:World} {K:Nat->Prop} {S:List Nat} {rb n m:Nat} {has:Int->Bool} {F:Int} {M:Int->Int} (h:Ram5 w K S rb has F M n) (hn:n<=m):Ram5 w K S rb has F M m:=⟨h.ram.mono hn,h.ok,h.sub⟩
theorem Ram5.next {w w':World} {K:Nat->Prop} {S:List Nat} {rb n m:Nat} {has:Int->Bool} {F:Int} {M M':Int->Int} (h:Ram5 w K S rb has F M n) (hr:IsRamK w' K rb has F M' m) (hk:Kept K w w'):Ram5 w' K S rb has F M' m :=
 ⟨hr,h.ok.keep (fun s hs=>hk.block s (h.sub s hs)) hk.size,h.sub⟩
theorem Ram5.poke {w w':World} {K:Nat->Prop} {S:List Nat} {rb n m:Nat} {has:Int->Bool} {F:Int} {M:Int->Int} (h:Ram5 w K S rb has F M n) (hg:w.grownBy w' (some m)) (hm:K m) (hS:m∉S):Ram5 w' K S rb has F M n:=by
 have h2:=(h.ram.toS h.ok).poke hg (fun f e=>by cases e;exact ⟨hm,hS⟩)
 have h3:=h2.back (fun j hj=>hj) h.sub (fun j hj=>Nat.lt_of_lt_of_le (h.ram.dom j hj) hg.size)
 exact ⟨h3.1,h2.choose_spec.choose_spec.1,h.sub⟩
end Go.Proofs.YtajfbieacfjhnaaGreatDoor
