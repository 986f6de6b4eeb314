import Derived.Test.YtajfbieacfjhnaaGreatDoorMSc
namespace Go.Proofs.YtajfbieacfjhnaaGreatDoor
open Go.ChangeShapes Go.WideShapes Go.ChangeAt Go.RowKit Go.Maps
set_option linter.unusedSimpArgs false
set_option linter.unusedVariables false
set_option maxRecDepth 8000
structure Kept (K:Nat->Prop) (w w':World):Prop where
 os:w'.os=w.os
 tape:w'.tape=w.tape
 output:w'.output=w.output
 size:w.heap.size<=w'.heap.size
 block: ∀ k,K k->w'.heap[k]? =w.heap[k]?
theorem Kept.refl (K:Nat->Prop) (w:World):Kept K w w:=⟨rfl,rfl,rfl,Nat.le_refl _,fun _ _=>rfl⟩
theorem Kept.trans {K:Nat->Prop} {a b c:World} (h:Kept K a b) (k:Kept K b c):Kept K a c:=⟨k.os.trans h.os,k.tape.trans h.tape,k.output.trans h.output,Nat.le_trans h.size k.size,fun j hj=>(k.block j hj).trans (h.block j hj)⟩
theorem Kept.sub {K K':Nat->Prop} {a b:World} (h:Kept K a b) (hs: ∀ j,K' j->K j):Kept K' a b:=⟨h.os,h.tape,h.output,h.size,fun j hj=>h.block j (hs j hj)⟩
theorem kept_of_below {K:Nat->Prop} {a b:World} {B:Nat} (h:Below B a b) (hs: ∀ j,K j->j<B):Kept K a b:=⟨h.os,h.tape,h.output,h.size,fun j hj=>h.block j (hs j hj)⟩
theorem kept_of_grown0 {K:Nat->Prop} {w w':World} (hg:w.grownBy w' none) (hK: ∀ j,K j->j<w.heap.size):Kept K w w':=⟨hg.os,hg.tape,hg.output,hg.size,fun j hj=>hg.block j (hK j hj) (by simp)⟩
def IsRamK (w:World) (K:Nat->Prop) (rb:Nat) (has:Int->Bool) (F:Int) (M:Int->Int) (n:Nat):Prop :=
 ∃ (mb:Nat) (S:List Nat) (pg:Int->Option Nat),(0<=rb/\0<=mb/\HasOk w rb S has/\mb∉S /\
  w.cell? ⟨rb,0,none⟩=some (.int .i64 F)/\w.cell? ⟨rb,2,none⟩=some (.map (some mb))/\Mem w mb n pg /\
  (∀ k b,pg k=some b->0<=b/\b<w.heap.size/\b∉S/\b≠mb/\Page w b (fun i=>M (k*4096+i))) /\
  (∀ k k' b,pg k=some b->pg k'=some b->k=k')/\(∀ k,pg k=none-> ∀ i:Nat,i<4096->M (k*4096+i)=0)/\ ∀ t,0<=M t/\M t<256) /\
  ¬ K mb/\(∀ k b,pg k=some b-> ¬ K b)/\ ∀ j,K j->j<w.heap.size
theorem IsRamK.ram {w:World} {K:Nat->Prop} {rb n:Nat} {has:Int->Bool} {F:Int} {M:Int->Int} (h:IsRamK w K rb has F M n):IsRam w 0 rb has F M n:=by
 obtain ⟨mb,S,pg,h,_⟩:=h;exact ⟨mb,S,pg,h⟩
theorem IsRamK.hasOk {w:World} {K:Nat->Prop} {rb n:Nat} {has:Int->Bool} {F:Int} {M:Int->Int} (h:IsRamK w K rb has F M n): ∃ S,HasOk w rb S has:=h.ram.hasOk
theorem IsRamK.dom {w:World} {K:Nat->Prop} {rb n:Nat} {has:Int->Bool} {F:Int} {M:Int->Int} (h:IsRamK w K rb has F M n): ∀ j,K j->j<w.heap.size:=by
 obtain ⟨mb,S,pg,_,_,_,h⟩:=h;exact h
theorem IsRamK.mono {w:World} {K:Nat->Prop} {rb n m:Nat} {has:Int->Bool} {F:Int} {M:Int->Int} (h:IsRamK w K rb has F M n) (hn:n<=m):IsRamK w K rb has F M m:=by
 obtain ⟨mb,S,pg,⟨q1,q2,hk,q3,q4,q5,hm,hr⟩,h1,h2,h3⟩:=h
 exact ⟨mb,S,pg,⟨q1,q2,hk,q3,q4,q5,hm.mono hn,hr⟩,h1,h2,h3⟩
theorem IsRamK.more {w w':World} {K K':Nat->Prop} {rb n:Nat} {has:Int->Bool} {F:Int} {M:Int->Int} (h:IsRamK w K rb has F M n) (hg:w.grownBy w' none) (hK: ∀ j,K' j->K j\/(w.heap.size<=j/\j<w'.heap.size)):IsRamK w' K' rb has F M n:=by
 obtain ⟨mb,S,pg,⟨q1,q2,hk,q3,q4,q5,hm,hp,hi,hz,hb⟩,h1,h2,h3⟩:=h
 have hrb:=hk.2.1 rb hk.1
 have hsz:=hg.size
 have hmb:=hm.lt
 refine ⟨mb,S,pg,⟨q1,q2,hk.keep (fun s hs=>hg.block s (hk.2.1 s hs) (by simp)) hg.size,q3,?_,?_,hm.kept hg (by simp),?_,hi,hz,hb⟩,?_,?_,?_⟩
 . rw [World.cell?_of_block (w:=w) (a:=⟨rb,0,none⟩) (hg.block rb hrb (by simp))];exact q4
 . rw [World.cell?_of_block (w:=w) (a:=⟨rb,2,none⟩) (hg.block rb hrb (by simp))];exact q5
 . intro k b e
   obtain ⟨r1,r2,r3,r4,r5⟩:=hp k b e
   exact ⟨r1,Nat.lt_of_lt_of_le r2 hg.size,r3,r4,r5.of_block (hg.block b r2 (by simp))⟩
 . intro e;rcases hK _ e with e | e
   . exact h1 e
   . omega
 . intro k b e hb';rcases hK _ hb' with e' | e'
   . exact h2 k b e e'
   . have:=(hp k b e).2.1;omega
 . intro j hj;rcases hK j hj with e | e
   . exact Nat.lt_of_lt_of_le (h3 j e) hg.size
   . exact e.2
theorem IsRamK.grown {w w':World} {K:Nat->Prop} {rb n:Nat} {has:Int->Bool} {F:Int} {M:Int->Int} (h:IsRamK w K rb has F M n) (hg:w.grownBy w' none):IsRamK w' K rb has F M n:=h.more hg (fun j hj=>Or.inl hj)
theorem write_K {w:World} {K:Nat->Prop} {rb:Nat} {has:Int->Bool} {F:Int} {M:Int->Int} {n:Nat} (h:IsRamK w K rb has F M n) (hn:n<maxLen) (k a m x:Int) (k0: -9223372036854775808<=k) (k1:k<=9223372036854775807)
 (a0:0<=a) (m0:0<=m) (m8:m<=8) (am:a+m<=4096) (x0:0<=x) (x1:x<18446744073709551616) :
 Calls Tryz.prog 165 #[.pointer (some ⟨rb,0,none⟩),.int .i64 k,.int .i64 a,.int .i64 m,.int .u64 x] w fun e w'=>e=.returned (.tuple #[]) /\
  IsRamK w' K rb has F (mset M (k*4096+a) m x) (n+1)/\Kept K w w':=by
 obtain ⟨mb,S,pg,⟨q1,q2,hk,q3,q4,q5,hm,hp,hi,hz,hb⟩,hK1,hK2,hK3⟩:=h
 have hrb:=hk.2.1 rb hk.1
 have ea:k*4096+a=k*4096+((a.toNat:Nat):Int):=by omega
 have em:m=((m.toNat:Nat):Int):=by omega
 have hin: ∀ i:Nat,mset M (k*4096+a) m x (k*4096+i)=cset (fun i=>M (k*4096+i)) a.toNat m.toNat x i:=by
  intro i;rw [ea];conv=>lhs;rw [em]
  exact mset_in M k x a.toNat m.toNat i
 have hout: ∀ (j:Int) (i:Nat),j≠k->i<4096->mset M (k*4096+a) m x (j*4096+i)=M (j*4096+i):=by
  intro j i hj hi';rw [ea];conv=>lhs;rw [em]
  exact mset_out M hj (by omega) hi'
 cases hpk:pg k with
 | none =>
  refine (write_none rb mb n pg k a m x w k0 k1 q5 hrb hm hn hpk a0 m0 m8 am x0 x1).mono ?_
  rintro e w' ⟨he,hm',hpage,hg⟩
  have hne: ∀ s,s∈S->some s≠some mb:=fun s hs e=>by cases e;exact q3 hs
  have hnerb:=hne rb hk.1
  have hput: ∀ k' b,put pg k (some w.heap.size) k'=some b-> ¬ K b:=by
   intro k' b hb' hKb
   unfold put at hb'
   by_cases c:k'=k
   . rw [if_pos c] at hb';cases hb';exact absurd (hK3 _ hKb) (by omega)
   . rw [if_neg c] at hb';exact hK2 k' b hb' hKb
  refine ⟨he,⟨mb,S,put pg k (some w.heap.size),⟨q1,q2,hk.keep (fun s hs=>hg.block s (hk.2.1 s hs) (hne s hs)) hg.size,q3,?_,?_,hm',?_,?_,?_,mset_byte hb _ _ _⟩,hK1,hput,fun j hj=>Nat.lt_of_lt_of_le (hK3 j hj) hg.size⟩,⟨hg.os,hg.tape,hg.output,hg.size,fun j hj=>hg.block j (hK3 j hj) (by intro e;cases e;exact hK1 hj)⟩⟩
  . rw [World.cell?_of_block (w:=w) (a:=⟨rb,0,none⟩) (hg.block rb hrb hnerb)];exact q4
  . rw [World.cell?_of_block (w:=w) (a:=⟨rb,2,none⟩) (hg.block rb hrb hnerb)];exact q5
  . intro j b hjb
    unfold put at hjb
    by_cases c:j=k
    . rw [if_pos c] at hjb
      cases hjb
      have hlt:=hm'.lt
      refine ⟨by omega,?_,fun hs=>by have:=hk.2.1 _ hs;omega,fun e=>by have:=hm.lt;omega,?_⟩
      . have hcell:=(hpage 0 (by omega)).1
        rcases Nat.lt_or_ge w.heap.size w'.heap.size with d | d
        . exact d
        . exfalso
          have:w'.heap[w.heap.size]? =none:=Array.getElem?_eq_none d
          simp [World.cell?,this] at hcell
      . rw [c]
        refine hpage.congr fun i hi'=> ?_
        rw [hin]
        unfold cset
        by_cases c2:a.toNat<=i/\i<a.toNat+m.toNat
        . rw [if_pos c2,if_pos c2]
        . rw [if_neg c2,if_neg c2];exact (hz k hpk i hi').symm
    . rw [if_neg c] at hjb
      obtain ⟨r1,r2,r3,r4,r5⟩:=hp j b hjb
      exact ⟨r1,Nat.lt_of_lt_of_le r2 hg.size,r3,r4,(r5.of_block (hg.block b r2 (by intro e;cases e;exact r4 rfl))).congr fun i hi'=>(hout j i c hi').symm⟩
  . intro j j' b hjb hjb'
    unfold put at hjb hjb'
    by_cases c:j=k
    . by_cases c':j'=k
      . rw [c,c']
      . rw [if_pos c] at hjb;rw [if_neg c'] at hjb'
        cases hjb
        have:=(hp j' _ hjb').2.1;omega
    . by_cases c':j'=k
      . rw [if_neg c] at hjb;rw [if_pos c'] at hjb'
        cases hjb'
        have:=(hp j _ hjb).2.1;omega
      . rw [if_neg c] at hjb;rw [if_neg c'] at hjb'
        exact hi j j' b hjb hjb'
  . intro j hj i hi'
    unfold put at hj
    by_cases c:j=k
    . rw [if_pos c] at hj;cases hj
    . rw [if_neg c] at hj
      rw [hout j i c hi'];exact hz j hj i hi'
 | some b =>
  obtain ⟨r1,r2,r3,r4,r5⟩:=hp k b hpk
  refine (write_some rb mb n b pg (fun i=>M (k*4096+i)) k a m x w k0 k1 q5 hm hpk r5 a0 m0 m8 am x0 x1).mono ?_
  rintro e w' ⟨he,hpage,hg⟩
  have hne: ∀ s,s∈S->some s≠some b:=fun s hs e=>by cases e;exact r3 hs
  have hnerb:=hne rb hk.1
  refine ⟨he,⟨mb,S,pg,⟨q1,q2,hk.keep (fun s hs=>hg.block s (hk.2.1 s hs) (hne s hs)) hg.size,q3,?_,?_,(hm.kept hg (by intro e;cases e;exact r4 rfl)).mono (by omega),?_,hi,?_,mset_byte hb _ _ _⟩,hK1,hK2,fun j hj=>Nat.lt_of_lt_of_le (hK3 j hj) hg.size⟩,⟨hg.os,hg.tape,hg.output,hg.size,fun j hj=>hg.block j (hK3 j hj) (by intro e;cases e;exact hK2 k b hpk hj)⟩⟩
  . rw [World.cell?_of_block (w:=w) (a:=⟨rb,0,none⟩) (hg.block rb hrb hnerb)];exact q4
  . rw [World.cell?_of_block (w:=w) (a:=⟨rb,2,none⟩) (hg.block rb hrb hnerb)];exact q5
  . intro j b' hjb
    by_cases c:j=k
    . subst c
      rw [hpk] at hjb;cases hjb
      exact ⟨r1,Nat.lt_of_lt_of_le r2 hg.size,r3,r4,hpage.congr fun i hi'=>(hin i).symm⟩
    . obtain ⟨t1,t2,t3,t4,t5⟩:=hp j b' hjb
      have hbb:b'≠b:=fun e=>c (hi j k b' hjb (by rw [e];exact hpk))
      exact ⟨t1,Nat.lt_of_lt_of_le t2 hg.size,t3,t4,(t5.of_block (hg.block b' t2 (by intro e;cases e;exact hbb rfl))).congr fun i hi'=>(hout j i c hi').symm⟩
  . intro j hj i hi'
    have c:j≠k:=fun e=>by rw [e,hpk] at hj;cases hj
    rw [hout j i c hi'];exact hz j hj i hi'
set_option maxHeartbeats 400000 in
theorem store_K {w:World} {K':Nat->Prop} {rb:Nat} {has:Int->Bool} {F:Int} {M:Int->Int} {n:Nat} (h:IsRamK w K' rb has F M n) (hn:n+1<maxLen) (addr size x:Int) (h0:0<=addr) (h1:addr<18446744073709551616) (hz:chkG has addr size=0)
 (x0:0<=x) (x1:x<18446744073709551616) :
 Calls Tryz.prog 120 #[.pointer (some ⟨rb,0,none⟩),.int .u64 addr,.int .i64 size,.int .u64 x] w fun e w'=>e=.returned (.int .i64 0)/\IsRamK w' K' rb has F (mset M addr size x) (n+2)/\Kept K' w w':=by
 obtain ⟨S,hk⟩:=h.hasOk
 have hsz:size=1\/size=2\/size=4\/size=8:=by
  unfold chkG at hz
  by_cases c:size=1\/size=2\/size=4\/size=8
  . exact c
  . rw [if_neg c] at hz;omega
 have hfit:addr+size<=18446744073709551616:=by
  unfold chkG at hz
  rw [if_pos hsz] at hz
  by_cases c:addr+size<=18446744073709551616/\has (addr / 4096)=true/\has ((addr+size-1) / 4096)=true
  . exact c.1
  . rw [if_neg c] at hz;omega
 have ck:Hid (∀ u:Unit,Calls Tryz.prog 148 #[.pointer (some ⟨rb,0,none⟩),.int .u64 addr,.int .i64 size] w fun e w'=>e=.returned (.int .i64 0)/\w.grownBy w' none):=by
  intro _;rw [<- hz];exact check_any rb S has addr size w h0 h1 hk
 obtain ⟨K,hK⟩: ∃ K:Int,addr / 4096=K:=⟨_,rfl⟩
 obtain ⟨A,hA⟩: ∃ A:Int,addr % 4096=A:=⟨_,rfl⟩
 have hKA:addr=K*4096+A:=by omega
 have A0:0<=A:=by omega
 have A1:A<4096:=by omega
 have K0:0<=K:=by omega
 have K1:K<4503599627370496:=by omega
 have s0:1<=size:=by omega
 have s8:size<=8:=by omega
 have HI:Hid (IsRamK w K' rb has F M n):=h
 by_cases c:size<=4096-A
 . have sp:Hid (∀ w:World,Calls Tryz.prog 149 #[.int .u64 addr,.int .i64 size] w fun e w'=>e=.returned (.tuple #[.int .i64 K,.int .i64 A,.int .i64 size])/\w'=w):=by
    intro w;rw [<- hK,<- hA];exact split_in addr size h0 h1 (by omega) s8 (by omega) w
   have wr:Hid (∀ w1:World,IsRamK w1 K' rb has F M n->Calls Tryz.prog 165 #[.pointer (some ⟨rb,0,none⟩),.int .i64 K,.int .i64 A,.int .i64 size,.int .u64 x] w1 fun e w'=>e=.returned (.tuple #[]) /\
    IsRamK w' K' rb has F (mset M addr size x) (n+1)/\Kept K' w1 w'):=by
    intro w1 hI
    have:=write_K hI (by omega) K A size x (by omega) (by omega) A0 (by omega) s8 (by omega) x0 x1
    rw [<- hKA] at this;exact this
   clear h hk hz hsz hfit hK hA hKA A0 A1 K0 K1 s0 s8 c
   go_enter Tryz.func120,Tryz.ntmps120
   go_wp2_with fail
   refine (ck.out ()).mono ?_
   rintro e w1 ⟨rfl,hg1⟩
   go_wp2_with fail
   refine (sp.out _).mono ?_
   rintro e w' ⟨rfl,rfl⟩
   go_wp2_with fail
   refine (wr.out _ (HI.out.grown hg1)).mono ?_
   rintro e w2 ⟨rfl,hI2,hb2⟩
   go_wp2_with fail
   go_ret
   exact ⟨rfl,hI2.mono (by omega),(kept_of_grown0 hg1 HI.out.dom).trans hb2⟩
 . obtain ⟨L,hL⟩: ∃ L:Int,4096-A=L:=⟨_,rfl⟩
   obtain ⟨y,hy⟩: ∃ y:Int,x / 2 ^ (8*L).toNat=y:=⟨_,rfl⟩
   obtain ⟨R,hR⟩: ∃ R:Int,size-L=R:=⟨_,rfl⟩
   have l0:1<=L:=by omega
   have l1:L<size:=by omega
   have l8:L<=8:=by omega
   have r0:0<=R:=by omega
   have r8:R<=8:=by omega
   have hyx:y=x / 256 ^ L.toNat:=by rw [<- hy,show (8*L).toNat=8*L.toNat by omega,pow256]
   have y0:0<=y:=by rw [hyx];exact Int.ediv_nonneg x0 (Int.le_of_lt (Int.pow_pos (by omega)))
   have y1:y<18446744073709551616:=by rw [hyx];exact Int.lt_of_le_of_lt (Int.ediv_le_self _ x0) x1
   have sp:Hid (∀ w:World,Calls Tryz.prog 149 #[.int .u64 addr,.int .i64 size] w fun e w'=>e=.returned (.tuple #[.int .i64 K,.int .i64 A,.int .i64 L])/\w'=w):=by
    intro w;rw [<- hL,<- hK,<- hA];exact split_over addr size h0 h1 (by omega) s8 (by omega) w
   have wr:Hid (∀ w1:World,IsRamK w1 K' rb has F M n->Calls Tryz.prog 165 #[.pointer (some ⟨rb,0,none⟩),.int .i64 K,.int .i64 A,.int .i64 L,.int .u64 x] w1 fun e w'=>e=.returned (.tuple #[]) /\
    IsRamK w' K' rb has F (mset M addr L x) (n+1)/\Kept K' w1 w'):=by
    intro w1 hI
    have:=write_K hI (by omega) K A L x (by omega) (by omega) A0 (by omega) (by omega) (by omega) x0 x1
    rw [<- hKA] at this;exact this
   have wr2:Hid (∀ w1:World,IsRamK w1 K' rb has F (mset M addr L x) (n+1)->Calls Tryz.prog 165 #[.pointer (some ⟨rb,0,none⟩),.int .i64 (K+1),.int .i64 0,.int .i64 R,.int .u64 y] w1 fun e w'=>e=.returned (.tuple #[]) /\
    IsRamK w' K' rb has F (mset M addr size x) (n+2)/\Kept K' w1 w'):=by
    intro w1 hI
    have:=write_K hI (by omega) (K+1) 0 R y (by omega) (by omega) (by omega) (by omega) (by omega) (by omega) y0 y1
    rw [show (K+1)*4096+0=addr+L by omega,<- hR,hyx,mset_two M addr L size x x0 (by omega) (by omega),hR,<- hyx] at this
    exact this
   clear h hk hz hsz hfit hK hA hKA A0 A1 s8 c hL hyx y0 y1
   go_enter Tryz.func120,Tryz.ntmps120
   go_wp2_with fail
   refine (ck.out ()).mono ?_
   rintro e w1 ⟨rfl,hg1⟩
   go_wp2_with fail
   refine (sp.out _).mono ?_
   rintro e w' ⟨rfl,rfl⟩
   go_wp2_with fail
   refine (wr.out _ (HI.out.grown hg1)).mono ?_
   rintro e w2 ⟨rfl,hI2,hb2⟩
   have HI2:Hid (IsRamK w2 K' rb has F (mset M addr L x) (n+1)):=hI2
   clear hI2
   go_wp2_with fail
   refine (wr2.out _ HI2.out).mono ?_
   rintro e w3 ⟨rfl,hI3,hb3⟩
   go_wp2_with fail
   go_ret
   exact ⟨rfl,hI3,((kept_of_grown0 hg1 HI.out.dom).trans hb2).trans hb3⟩
set_option maxHeartbeats 400000 in
theorem load_okG {w:World} {B rb:Nat} {has:Int->Bool} {F:Int} {M:Int->Int} {n:Nat} (h:IsRam w B rb has F M n) (addr size v:Int) (h0:0<=addr) (h1:addr<18446744073709551616) (hz:chkG has addr size=0)
 (hv:ld M addr size.toNat=v) :
 Calls Tryz.prog 103 #[.pointer (some ⟨rb,0,none⟩),.int .u64 addr,.int .i64 size] w fun e w'=>e=.returned (.tuple #[.int .u64 v,.int .i64 0])/\w.grownBy w' none:=by
 obtain ⟨S,hk⟩:=h.hasOk
 have hsz:size=1\/size=2\/size=4\/size=8:=by
  unfold chkG at hz
  by_cases c:size=1\/size=2\/size=4\/size=8
  . exact c
  . rw [if_neg c] at hz;omega
 have hfit:addr+size<=18446744073709551616:=by
  unfold chkG at hz
  rw [if_pos hsz] at hz
  by_cases c:addr+size<=18446744073709551616/\has (addr / 4096)=true/\has ((addr+size-1) / 4096)=true
  . exact c.1
  . rw [if_neg c] at hz;omega
 have ck:Hid (∀ u:Unit,Calls Tryz.prog 148 #[.pointer (some ⟨rb,0,none⟩),.int .u64 addr,.int .i64 size] w fun e w'=>e=.returned (.int .i64 0)/\w.grownBy w' none):=by
  intro _;rw [<- hz];exact check_any rb S has addr size w h0 h1 hk
 obtain ⟨K,hK⟩: ∃ K:Int,addr / 4096=K:=⟨_,rfl⟩
 obtain ⟨A,hA⟩: ∃ A:Int,addr % 4096=A:=⟨_,rfl⟩
 have hKA:addr=K*4096+A:=by omega
 have A0:0<=A:=by omega
 have A1:A<4096:=by omega
 have K0:0<=K:=by omega
 have K1:K<4503599627370496:=by omega
 have s0:1<=size:=by omega
 have s8:size<=8:=by omega
 have HI:Hid (IsRam w B rb has F M n):=h
 by_cases c:size<=4096-A
 . have sp:Hid (∀ w:World,Calls Tryz.prog 149 #[.int .u64 addr,.int .i64 size] w fun e w'=>e=.returned (.tuple #[.int .i64 K,.int .i64 A,.int .i64 size])/\w'=w):=by
    intro w;rw [<- hK,<- hA];exact split_in addr size h0 h1 (by omega) s8 (by omega) w
   have rd:Hid (∀ w1:World,IsRam w1 B rb has F M n->Calls Tryz.prog 150 #[.pointer (some ⟨rb,0,none⟩),.int .i64 K,.int .i64 A,.int .i64 size] w1 fun e w'=>e=.returned (.int .u64 v)/\w'=w1):=by
    intro w1 hI
    have:=read_any hI K A size (by omega) (by omega) A0 (by omega) s8 (by omega)
    rw [<- hKA,hv] at this;exact this
   clear h hk hz hsz hfit hK hA hKA A0 A1 K0 K1 s0 s8 c hv
   go_enter Tryz.func103,Tryz.ntmps103
   go_wp2_with fail
   refine (ck.out ()).mono ?_
   rintro e w1 ⟨rfl,hg1⟩
   go_wp2_with fail
   refine (sp.out _).mono ?_
   rintro e w' ⟨rfl,rfl⟩
   go_wp2_with fail
   refine (rd.out _ (HI.out.grown hg1)).mono ?_
   rintro e w' ⟨rfl,rfl⟩
   go_wp2_with fail
   go_ret2
   exact ⟨rfl,hg1⟩
 . obtain ⟨L,hL⟩: ∃ L:Int,4096-A=L:=⟨_,rfl⟩
   obtain ⟨R,hR⟩: ∃ R:Int,size-L=R:=⟨_,rfl⟩
   have l0:1<=L:=by omega
   have l1:L<size:=by omega
   have l8:L<=8:=by omega
   have r0:0<=R:=by omega
   have r8:R<=8:=by omega
   obtain ⟨X,hX⟩: ∃ X:Int,ld M addr L.toNat=X:=⟨_,rfl⟩
   obtain ⟨Y,hY⟩: ∃ Y:Int,ld M (addr+L) R.toNat=Y:=⟨_,rfl⟩
   have sp:Hid (∀ w:World,Calls Tryz.prog 149 #[.int .u64 addr,.int .i64 size] w fun e w'=>e=.returned (.tuple #[.int .i64 K,.int .i64 A,.int .i64 L])/\w'=w):=by
    intro w;rw [<- hL,<- hK,<- hA];exact split_over addr size h0 h1 (by omega) s8 (by omega) w
   have rd:Hid (∀ w1:World,IsRam w1 B rb has F M n->Calls Tryz.prog 150 #[.pointer (some ⟨rb,0,none⟩),.int .i64 K,.int .i64 A,.int .i64 L] w1 fun e w'=>e=.returned (.int .u64 X)/\w'=w1):=by
    intro w1 hI
    have:=read_any hI K A L (by omega) (by omega) A0 (by omega) (by omega) (by omega)
    rw [<- hKA,hX] at this;exact this
   have rd2:Hid (∀ w1:World,IsRam w1 B rb has F M n->Calls Tryz.prog 150 #[.pointer (some ⟨rb,0,none⟩),.int .i64 (K+1),.int .i64 0,.int .i64 R] w1 fun e w'=>e=.returned (.int .u64 Y)/\w'=w1):=by
    intro w1 hI
    have:=read_any hI (K+1) 0 R (by omega) (by omega) (by omega) (by omega) (by omega) (by omega)
    rw [show (K+1)*4096+0=addr+L by omega,hY] at this;exact this
   have hX':=ld_bd h.byte addr L.toNat
   have hY':=ld_bd h.byte (addr+L) R.toNat
   rw [hX] at hX';rw [hY] at hY'
   have hor:bits .or .u64 X (IntKind.u64.wrap (Y*2 ^ (8*L).toNat))=v:=by
    rw [show (8*L).toNat=8*L.toNat by omega,or_part hX'.1 hX'.2 hY'.1 hY'.2 (by omega),<- hX,<- hY,<- hv,show size.toNat=L.toNat+R.toNat by omega,ld_add,show addr+((L.toNat:Nat):Int)=addr+L by omega]
   clear h hk hz hsz hfit hK hA hKA A0 A1 s8 c hL hv hX hY hX' hY'
   go_enter Tryz.func103,Tryz.ntmps103
   go_wp2_with fail
   refine (ck.out ()).mono ?_
   rintro e w1 ⟨rfl,hg1⟩
   go_wp2_with fail
   refine (sp.out _).mono ?_
   rintro e w' ⟨rfl,rfl⟩
   go_wp2_with fail
   refine (rd.out _ (HI.out.grown hg1)).mono ?_
   rintro e w' ⟨rfl,rfl⟩
   go_wp2_with fail
   refine (rd2.out _ (HI.out.grown hg1)).mono ?_
   rintro e w' ⟨rfl,rfl⟩
   go_wp2_with fail
   go_ret2
   exact ⟨rfl,hg1⟩
end Go.Proofs.YtajfbieacfjhnaaGreatDoor
