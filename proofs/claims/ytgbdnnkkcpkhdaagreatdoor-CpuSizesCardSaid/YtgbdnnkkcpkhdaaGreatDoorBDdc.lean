import Derived.Test.YtgbdnnkkcpkhdaaGreatDoorBDcc
import Derived.Laws.BitsAllLaws
import Derived.Laws.ShiftsVar
import Derived.BigQuiet
set_option linter.unusedSimpArgs false
set_option linter.unusedVariables false
set_option maxRecDepth 8000
set_option maxHeartbeats 2000000
namespace Go.Proofs.YtgbdnnkkcpkhdaaGreatDoor.Bd
theorem p2pos (o:Nat):0<2 ^ o:=Nat.pow_pos (by omega)
theorem in_blk (o q i:Nat):i / 2 ^ o=q↔q*2 ^ o<=i/\i<q*2 ^ o+2 ^ o:=by
 have p:=p2pos o
 constructor
 . rintro rfl
   have e:=Nat.div_add_mod i (2 ^ o)
   have l:=Nat.mod_lt i p
   rw [Nat.mul_comm] at e
   omega
 . rintro ⟨h1,h2⟩
   exact Nat.div_eq_of_lt_le h1 (by rw [Nat.succ_mul];exact h2)
theorem blk_ne (o q:Nat):(q*2 ^ o) / 2 ^ o=q:=Nat.mul_div_cancel _ (p2pos o)
theorem div_up (i o d:Nat):i / 2 ^ (o+d)=i / 2 ^ o / 2 ^ d:=by rw [Nat.div_div_eq_div_mul,Nat.pow_add]
theorem div_one (i o:Nat):i / 2 ^ (o+1)=i / 2 ^ o / 2:=by rw [div_up]
theorem nest {o o':Nat} (h:o<=o') {i j:Nat} (e:j / 2 ^ o=i / 2 ^ o):j / 2 ^ o'=i / 2 ^ o':=by
 obtain ⟨d,rfl⟩: ∃ d,o'=o+d:=⟨o'-o,by omega⟩
 rw [div_up,div_up,e]
def cnN (F:Nat->Prop) (o q:Nat):Prop:=(∀ i,i / 2 ^ o=q->F i)/\(o=10\/ ∃ i,i / 2 ^ (o+1)=q / 2/\ ¬ F i)
def can (F:Nat->Prop) (o:Nat) (a:Int):Prop:=o<=10/\ ∃ q:Nat,a=((q*2 ^ o:Nat):Int)/\cnN F o q
theorem cn_max (F:Nat->Prop): ∀ d o q:Nat,o+d=10->(∀ i,i / 2 ^ o=q->F i)-> ∃ o' q',o<=o'/\o'<=10/\cnN F o' q'/\ ∀ i,i / 2 ^ o=q->i / 2 ^ o'=q'
 | 0, o, q, hd, h => ⟨o, q, Nat.le_refl _, by omega, ⟨h, Or.inl (by omega)⟩, fun _ e => e⟩
 | d + 1, o, q, hd, h => by
  by_cases c: ∀ i,i / 2 ^ (o+1)=q / 2->F i
  . obtain ⟨o',q',h1,h2,h3,h4⟩:=cn_max F d (o+1) (q / 2) (by omega) c
    exact ⟨o',q',by omega,h2,h3,fun i e=>h4 i (by rw [div_one,e])⟩
  . refine ⟨o,q,Nat.le_refl _,by omega,⟨h,Or.inr ?_⟩,fun _ e=>e⟩
    apply bca
    intro n
    apply c
    intro i e
    apply bca
    intro f
    exact n ⟨i,e,f⟩
theorem cn_dj1 {F:Nat->Prop} {o q o' q' i:Nat} (h:cnN F o q) (h':cnN F o' q') (l:o<=o') (l2:o'<=10) (e:i / 2 ^ o=q) (e':i / 2 ^ o'=q'):o=o'/\q=q':=by
 by_cases c:o=o'
 . subst c;exact ⟨rfl,e.symm.trans e'⟩
 . exfalso
   rcases h.2 with r | ⟨j,r1,r2⟩
   . omega
   . apply r2
     apply h'.1
     rw [<- e']
     apply nest (o:=o+1) (by omega)
     rw [r1,div_one,e]
theorem cn_dj {F:Nat->Prop} {o q o' q' i:Nat} (h:cnN F o q) (h':cnN F o' q') (l:o<=10) (l2:o'<=10) (e:i / 2 ^ o=q) (e':i / 2 ^ o'=q'):o=o'/\q=q':=by
 rcases Nat.le_total o o' with c | c
 . exact cn_dj1 h h' c l2 e e'
 . obtain ⟨a,b⟩:=cn_dj1 h' h c l e' e
   exact ⟨a.symm,b.symm⟩
theorem cn_rem {F:Nat->Prop} {o q:Nat} (ho:o<=10) (h:cnN F o q) (o' q':Nat) (ho':o'<=10):cnN (fun i=>F i/\ ¬ i / 2 ^ o=q) o' q'↔cnN F o' q'/\ ¬ (o'=o/\q'=q):=by
 constructor
 . rintro ⟨h1,h2⟩
   refine ⟨⟨fun i e=>(h1 i e).1,?_⟩,?_⟩
   . rcases h2 with r | ⟨i,r1,r2⟩
     . exact Or.inl r
     . apply bca
       intro n
       have n1:o'≠10:=fun e=>n (Or.inl e)
       have n2: ∀ j,j / 2 ^ (o'+1)=q' / 2->F j:=fun j e=>bca (fun f=>n (Or.inr ⟨j,e,f⟩))
       obtain ⟨o2,q2,g1,g2,g3,g4⟩:=cn_max F (9-o') (o'+1) (q' / 2) (by omega) n2
       have fi:=n2 i r1
       have ib:i / 2 ^ o=q:=bca (fun f=>r2 ⟨fi,f⟩)
       obtain ⟨rfl,rfl⟩:=cn_dj h g3 ho g2 ib (g4 i r1)
       have k:=blk_ne o' q'
       exact (h1 _ k).2 (g4 _ (by rw [div_one,k]))
   . rintro ⟨rfl,rfl⟩
     exact (h1 _ (blk_ne _ _)).2 (blk_ne _ _)
 . rintro ⟨h1,h2⟩
   refine ⟨fun i e=>⟨h1.1 i e,fun e2=>h2 (cn_dj h1 h ho' ho e e2)⟩,?_⟩
   rcases h1.2 with r | ⟨i,r1,r2⟩
   . exact Or.inl r
   . exact Or.inr ⟨i,r1,fun f=>r2 f.1⟩
def bud (q:Nat):Nat:=if q % 2=0 then q+1 else q-1
theorem bud_half (q:Nat):bud q / 2=q / 2:=by unfold bud;split <;> omega
theorem bud_ne (q:Nat):bud q≠q:=by unfold bud;split <;> omega
theorem cn_part {F:Nat->Prop} {o q:Nat} (hd: ∀ i,i / 2 ^ o=q-> ¬ F i) (hb:o=10\/ ¬ cnN F o (bud q)):o=10\/ ∃ i,i / 2 ^ (o+1)=q / 2/\ ¬ (F i\/i / 2 ^ o=q):=by
 rcases hb with r | r
 . exact Or.inl r
 . by_cases c10:o=10
   . exact Or.inl c10
   right
   apply bca
   intro n
   apply r
   refine ⟨fun i e=> ?_,Or.inr ⟨q*2 ^ o,by rw [div_one,blk_ne,bud_half],hd _ (blk_ne _ _)⟩⟩
   apply bca
   intro f
   refine n ⟨i,by rw [div_one,e,bud_half],?_⟩
   rintro (g | g)
   . exact f g
   . exact bud_ne q (e.symm.trans g)
theorem cn_add {F:Nat->Prop} {o q:Nat} (ho:o<=10) (hd: ∀ i,i / 2 ^ o=q-> ¬ F i) (hb:o=10\/ ¬ cnN F o (bud q)) (o' q':Nat) (ho':o'<=10):cnN (fun i=>F i\/i / 2 ^ o=q) o' q'↔cnN F o' q'\/(o'=o/\q'=q):=by
 have P:=cn_part hd hb
 constructor
 . rintro ⟨h1,h2⟩
   by_cases c: ∃ i,i / 2 ^ o'=q'/\i / 2 ^ o=q
   . obtain ⟨i,c1,c2⟩:=c
     rcases Nat.lt_trichotomy o' o with l | l | l
     . exfalso
       rcases h2 with r | ⟨j,r1,r2⟩
       . omega
       . apply r2
         right
         rw [<- c2]
         apply nest (o:=o'+1) (by omega)
         rw [r1,div_one,c1]
     . subst l;exact Or.inr ⟨rfl,c1.symm.trans c2⟩
     . exfalso
       rcases P with r | ⟨j,r1,r2⟩
       . omega
       . apply r2
         apply h1
         rw [<- c1]
         apply nest (o:=o+1) (by omega)
         rw [r1,div_one,c2]
   . left
     refine ⟨fun i e=> ?_,?_⟩
     . rcases h1 i e with f | f
       . exact f
       . exact absurd ⟨i,e,f⟩ c
     . rcases h2 with r | ⟨j,r1,r2⟩
       . exact Or.inl r
       . exact Or.inr ⟨j,r1,fun f=>r2 (Or.inl f)⟩
 . rintro (h | ⟨rfl,rfl⟩)
   . refine ⟨fun i e=>Or.inl (h.1 i e),?_⟩
     rcases h.2 with r | ⟨i,r1,r2⟩
     . exact Or.inl r
     . by_cases c:i / 2 ^ o=q
       . by_cases l:o'+1<=o
         . exfalso
           have k:=blk_ne o' q'
           refine hd _ ?_ (h.1 _ k)
           rw [<- c]
           apply nest (o:=o'+1) l
           rw [div_one,k,r1]
         . rcases P with p | ⟨j,p1,p2⟩
           . left;omega
           . right
             refine ⟨j,?_,p2⟩
             rw [<- r1]
             apply nest (o:=o+1) (by omega)
             rw [p1,div_one,c]
       . exact Or.inr ⟨i,r1,fun f=>f.elim r2 c⟩
   . exact ⟨fun i e=>Or.inr e,P⟩
theorem mul_inj {o q q':Nat} (e:((q*2 ^ o:Nat):Int)=((q'*2 ^ o:Nat):Int)):q=q':=Nat.eq_of_mul_eq_mul_right (p2pos o) (Int.ofNat.inj e)
theorem can_iff {F:Nat->Prop} {o q:Nat} (ho:o<=10):can F o ((q*2 ^ o:Nat):Int)↔cnN F o q :=
 ⟨fun ⟨_,q',e,h⟩=>by rw [mul_inj e];exact h,fun h=>⟨ho,q,rfl,h⟩⟩
theorem can_rem {F:Nat->Prop} {o q:Nat} (ho:o<=10) (h:cnN F o q):upd (can F) o (fun a=>can F o a/\a≠((q*2 ^ o:Nat):Int))=can (fun i=>F i/\ ¬ i / 2 ^ o=q):=by
 funext o' a
 apply propext
 unfold upd
 by_cases c:o'=o
 . subst c
   rw [if_pos rfl]
   constructor
   . rintro ⟨⟨l,q',e,h'⟩,n⟩
     exact ⟨l,q',e,(cn_rem ho h o' q' l).2 ⟨h',fun e2=>n (by rw [e,e2.2])⟩⟩
   . rintro ⟨l,q',e,h'⟩
     have:=(cn_rem ho h o' q' l).1 h'
     exact ⟨⟨l,q',e,this.1⟩,fun e2=>this.2 ⟨rfl,mul_inj (e.symm.trans e2)⟩⟩
 . rw [if_neg c]
   constructor
   . rintro ⟨l,q',e,h'⟩
     exact ⟨l,q',e,(cn_rem ho h o' q' l).2 ⟨h',fun e2=>c e2.1⟩⟩
   . rintro ⟨l,q',e,h'⟩
     exact ⟨l,q',e,((cn_rem ho h o' q' l).1 h').1⟩
theorem can_add {F:Nat->Prop} {o q:Nat} (ho:o<=10) (hd: ∀ i,i / 2 ^ o=q-> ¬ F i) (hb:o=10\/ ¬ cnN F o (bud q)):upd (can F) o (fun a=>can F o a\/a=((q*2 ^ o:Nat):Int))=can (fun i=>F i\/i / 2 ^ o=q):=by
 funext o' a
 apply propext
 unfold upd
 by_cases c:o'=o
 . subst c
   rw [if_pos rfl]
   constructor
   . rintro (⟨l,q',e,h'⟩ | e)
     . exact ⟨l,q',e,(cn_add ho hd hb o' q' l).2 (Or.inl h')⟩
     . exact ⟨ho,q,e,(cn_add ho hd hb o' q ho).2 (Or.inr ⟨rfl,rfl⟩)⟩
   . rintro ⟨l,q',e,h'⟩
     rcases (cn_add ho hd hb o' q' l).1 h' with r | ⟨_,r⟩
     . exact Or.inl ⟨l,q',e,r⟩
     . exact Or.inr (by rw [e,r])
 . rw [if_neg c]
   constructor
   . rintro ⟨l,q',e,h'⟩
     exact ⟨l,q',e,(cn_add ho hd hb o' q' l).2 (Or.inl h')⟩
   . rintro ⟨l,q',e,h'⟩
     rcases (cn_add ho hd hb o' q' l).1 h' with r | ⟨r,_⟩
     . exact ⟨l,q',e,r⟩
     . exact absurd r c
def Bnd (F:Nat->Prop):Prop:= ∀ i,F i->i<1048576
theorem can_last {F:Nat->Prop} {o q:Nat} (h:cnN F o q):F (q*2 ^ o+(2 ^ o-1)):=h.1 _ ((in_blk o q _).2 ⟨by omega,by have:=p2pos o;omega⟩)
theorem can_inv {F:Nat->Prop} (B:Bnd F):FInv (can F):=by
 constructor
 . rintro o a ho ⟨l,q,rfl,h⟩
   have:=B _ (can_last h)
   have p:=p2pos o
   refine ⟨by omega,?_⟩
   have e:((2:Int) ^ o)=((2 ^ o:Nat):Int):=by simp
   rw [e]
   omega
 . rintro o a o' a' ho ho' ⟨l,q,rfl,h⟩ ⟨l',q',rfl,h'⟩
   apply bca
   intro n
   have e:((2:Int) ^ o)=((2 ^ o:Nat):Int):=by simp
   have e':((2:Int) ^ o')=((2 ^ o':Nat):Int):=by simp
   rw [e,e'] at n
   have p:=p2pos o
   have p':=p2pos o'
   have m1:(max (q*2 ^ o) (q'*2 ^ o')) / 2 ^ o=q:=(in_blk o q _).2 ⟨by omega,by omega⟩
   have m2:(max (q*2 ^ o) (q'*2 ^ o')) / 2 ^ o'=q':=(in_blk o' q' _).2 ⟨by omega,by omega⟩
   obtain ⟨r1,r2⟩:=cn_dj h h' l l' m1 m2
   exact n (Or.inl ⟨r1,by rw [r1,r2]⟩)
theorem half_blk (k q i:Nat):i / 2 ^ (k+1)=q↔i / 2 ^ k=2*q\/i / 2 ^ k=2*q+1:=by
 rw [div_one];omega
theorem take_can {F:Nat->Prop} {f q:Nat} (hf:f<=10) (h:cnN F f q): ∀ d k:Nat,k+d=f->takeA (can F) f ((q*2 ^ f:Nat):Int) k=can (fun i=>F i/\ ¬ i / 2 ^ k=q*2 ^ d)
 | 0, k, e => by
  have:k=f:=by omega
  subst this
  rw [<- take_first,can_rem hf h];simp
 | d + 1, k, e => by
  have ih:=take_can hf h d (k+1) (by omega)
  have e1:q*2 ^ (d+1)=2*(q*2 ^ d):=by rw [Nat.pow_succ];rw [Nat.mul_comm (2 ^ d) 2,<- Nat.mul_assoc,Nat.mul_comm q 2,Nat.mul_assoc]
  have hx:((q*2 ^ f:Nat):Int)+2 ^ k=(((2*(q*2 ^ d)+1)*2 ^ k:Nat):Int):=by
   have:q*2 ^ f=2*(q*2 ^ d)*2 ^ k:=by rw [<- e1,Nat.mul_assoc,<- Nat.pow_add,show d+1+k=f by omega]
   rw [this,Nat.add_mul,Nat.one_mul];simp [Int.add_mul]
  rw [<- take_step _ _ _ _ (by omega:k<f),ih,hx,can_add (by omega)]
  . congr 1
    funext i
    apply propext
    rw [half_blk,e1]
    constructor
    . rintro (⟨a,b⟩ | a)
      . exact ⟨a,fun c=>b (Or.inl c)⟩
      . refine ⟨?_,by omega⟩
        apply h.1
        obtain ⟨d',rfl⟩: ∃ d',d'=d:=⟨d,rfl⟩
        rw [<- e,div_up,Nat.pow_succ,Nat.mul_comm (2 ^ d') 2,<- Nat.div_div_eq_div_mul,a,show (2*(q*2 ^ d')+1) / 2=q*2 ^ d' by omega,Nat.mul_div_cancel _ (p2pos d')]
    . rintro ⟨a,b⟩
      by_cases c:i / 2 ^ k=2*(q*2 ^ d)+1
      . exact Or.inr c
      . exact Or.inl ⟨a,fun s=>s.elim b c⟩
  . intro i hi hF
    exact hF.2 ((half_blk _ _ _).2 (Or.inr hi))
  . right
    intro hc
    have:=hc.1 (2*(q*2 ^ d)*2 ^ k) (by rw [blk_ne];unfold bud;rw [if_neg (by omega)];omega)
    exact this.2 ((half_blk _ _ _).2 (Or.inl (blk_ne _ _)))
end Go.Proofs.YtgbdnnkkcpkhdaaGreatDoor.Bd
namespace Go.Proofs.YtgbdnnkkcpkhdaaGreatDoor.Bd
open Go.ChangeShapes Go.WideShapes Go.ChangeAt Go.RowKit Go.Maps
theorem xor_one (q:Nat):q ^^^ 1=bud q:=by
 have h1:(q ^^^ 1) / 2=q / 2:=by rw [Nat.xor_div_two];simp
 have h2:(q ^^^ 1) % 2=(q+1) % 2:=by
  have t:=Nat.testBit_xor q 1 0
  rw [Nat.testBit_zero,Nat.testBit_zero,Nat.testBit_zero] at t
  rcases Nat.mod_two_eq_zero_or_one q with c | c <;> rcases Nat.mod_two_eq_zero_or_one (q ^^^ 1) with d | d <;> rw [c,d] at t <;> first | omega | (exfalso;revert t;decide)
 unfold bud
 split <;> omega
theorem xor_blk (q o:Nat):(q*2 ^ o) ^^^ (2 ^ o)=bud q*2 ^ o:=by
 have:(2:Nat) ^ o=1 <<< o:=by rw [Nat.shiftLeft_eq,Nat.one_mul]
 rw [<- xor_one,<- Nat.shiftLeft_eq,<- Nat.shiftLeft_eq,Nat.shiftLeft_xor_distrib,<- this]
theorem not_blk (q o:Nat) (ho:o<=10) (hq:q*2 ^ o<18446744073709551616):(q*2 ^ o) &&& (18446744073709551615-2 ^ o)=q / 2*2 ^ (o+1):=by
 have lo:2 ^ o<2 ^ 64:=Nat.pow_lt_pow_right (by omega) (by omega)
 have e:18446744073709551615-2 ^ o=2 ^ 64-(2 ^ o+1):=by omega
 rw [e]
 apply Nat.eq_of_testBit_eq
 intro j
 rw [Nat.testBit_and,Nat.testBit_two_pow_sub_succ lo,Nat.testBit_mul_two_pow,Nat.testBit_mul_two_pow,Nat.testBit_two_pow]
 by_cases c1:j=o
 . subst c1;simp;intro h;exact absurd h (by omega)
 . by_cases c2:j<o
   . have: ¬ (j>=o):=by omega
     have: ¬ (j>=o+1):=by omega
     simp [*]
   . obtain ⟨d,rfl⟩: ∃ d,j=o+1+d:=⟨j-o-1,by omega⟩
     have e1:q.testBit (o+1+d-o)=(q / 2).testBit d:=by rw [show o+1+d-o=d+1 by omega,Nat.testBit_succ]
     have e2:o+1+d-(o+1)=d:=by omega
     have e3:decide (o=o+1+d)=false:=kh
     rw [e1,e2,e3]
     by_cases c3:o+1+d<64
     . have g1:decide (o+1+d>=o)=true:=by simp;omega
       have g2:decide (o+1+d>=o+1)=true:=by simp
       simp [c3,g1,g2]
     . have:(q / 2).testBit d=false:=by
        apply Nat.testBit_lt_two_pow
        have p2:q / 2*2 ^ (o+1)<=q*2 ^ o:=by
         rw [Nat.pow_succ,Nat.mul_comm (2 ^ o) 2,<- Nat.mul_assoc]
         exact Nat.mul_le_mul_right _ (by omega)
        have p3:(q / 2)*2 ^ (o+1)<2 ^ d*2 ^ (o+1):=by
         rw [<- Nat.pow_add]
         refine nla (Nat.lt_of_le_of_lt p2 hq) ?_
         exact Nat.pow_le_pow_right (n:=2) (by decide) (by omega:64<=d+(o+1))
        exact Nat.lt_of_mul_lt_mul_right p3
       simp [this]
theorem i64_xor_nat (a b:Nat) (ha:a<1099511627776) (hb:b<1099511627776):bits .xor .i64 (a:Int) (b:Int)=((a ^^^ b:Nat):Int):=by
 have hx:a ^^^ b<2 ^ 40:=Nat.xor_lt_two_pow (by omega) (by omega)
 show IntKind.i64.wrap ((BitVec.ofInt 64 (a:Int) ^^^ BitVec.ofInt 64 (b:Int)).toNat:Int)=_
 rw [BitVec.toNat_xor,ofInt_u64 a (by omega),ofInt_u64 b (by omega),IntKind.wrap_i64]
 omega
theorem i64_not_nat (a b:Nat) (ha:a<1099511627776) (hb:b<1099511627776):bits .andNot .i64 (a:Int) (b:Int)=((a &&& (18446744073709551615-b):Nat):Int):=by
 have hx:a &&& (18446744073709551615-b)<=a:=Nat.and_le_left
 show IntKind.i64.wrap ((BitVec.ofInt 64 (a:Int) &&& ~~~BitVec.ofInt 64 (b:Int)).toNat:Int)=_
 rw [BitVec.toNat_and,BitVec.toNat_not,ofInt_u64 a (by omega),ofInt_u64 b (by omega),IntKind.wrap_i64]
 have e:2 ^ 64-1-b=18446744073709551615-b:=by omega
 rw [e]
 omega
theorem Bt.then {w W:World} {base b gb N:Nat} {mbs:Nat->Nat} {svs:Nat->Value} {A:Nat->Int->Prop} {G:Int->Option Int} (H:Bt w W base b gb mbs svs N A G) :
 ∃ s,Bt W W base b gb mbs s N A G/\ ∀ w' N' A' G',Bt W w' base b gb mbs s N' A' G'->Bt w w' base b gb mbs svs N' A' G':=by
 obtain ⟨C,s,h1,h2,h3⟩:=H
 refine ⟨s,Bt.refl h1,fun w' N' A' G' ⟨C',s',g1,g2,g3⟩=>⟨C',s',g1,h2.next g2 (fun j hj e=> ?_),fun o ho=> ?_⟩⟩
 . rcases e with e | e | ⟨o,ho,e | e⟩
   . exact Or.inl e
   . exact Or.inr (Or.inl e)
   . exact Or.inr (Or.inr ⟨o,ho,Or.inl e⟩)
   . rcases h3 o ho with q | ⟨g,q,lg⟩
     . exact Or.inr (Or.inr ⟨o,ho,Or.inr (q.symm.trans e)⟩)
     . rw [q] at e;have:=sia e;omega
 . rcases g3 o ho with q | ⟨g,q,lg⟩
   . rw [q];exact h3 o ho
   . exact Or.inr ⟨g,q,Nat.le_trans h2.size lg⟩
structure Up (F:Nat->Prop) (o q k:Nat) (x:Int) (F':Nat->Prop) (p:Nat):Prop where
 at_:x=((p*2 ^ k:Nat):Int)
 dj: ∀ i,i / 2 ^ k=p-> ¬ F' i
 all:(fun i=>F' i\/i / 2 ^ k=p)=(fun i=>F i\/i / 2 ^ o=q)
theorem Up.top {F F':Nat->Prop} {o q k p:Nat} {x:Int} (U:Up F o q k x F' p) (hB:Bnd F) (hq:q*2 ^ o+2 ^ o<=1048576):p*2 ^ k+2 ^ k<=1048576:=by
 have pk:=p2pos k
 have m:(p*2 ^ k+(2 ^ k-1)) / 2 ^ k=p:=(in_blk k p _).2 ⟨by omega,by omega⟩
 have e:=congrFun U.all (p*2 ^ k+(2 ^ k-1))
 have r:F (p*2 ^ k+(2 ^ k-1))\/(p*2 ^ k+(2 ^ k-1)) / 2 ^ o=q:=by
  have:(F' (p*2 ^ k+(2 ^ k-1))\/(p*2 ^ k+(2 ^ k-1)) / 2 ^ k=p):=Or.inr m
  exact e.mp this
 rcases r with r | r
 . have:=hB _ r;omega
 . have:=((in_blk o q _).1 r).2;omega
theorem Up.bnd {F F':Nat->Prop} {o q k p:Nat} {x:Int} (U:Up F o q k x F' p) (hB:Bnd F) (hq:q*2 ^ o+2 ^ o<=1048576):Bnd F':=fun i hi=>by
 rcases (congrFun U.all i).mp (Or.inl hi) with r | r
 . exact hB _ r
 . have:=((in_blk o q _).1 r).2;omega
theorem Up.next {F F':Nat->Prop} {o q k p:Nat} {x:Int} (U:Up F o q k x F' p) (h:cnN F' k (bud p)):Up F o q (k+1) ((p / 2*2 ^ (k+1):Nat):Int) (fun i=>F' i/\ ¬ i / 2 ^ k=bud p) (p / 2):=by
 have hp: ∀ i,i / 2 ^ (k+1)=p / 2↔i / 2 ^ k=p\/i / 2 ^ k=bud p:=fun i=>by
  rw [half_blk];unfold bud;split <;> omega
 refine ⟨rfl,fun i hi=> ?_,?_⟩
 . rcases (hp i).1 hi with r | r
   . exact fun f=>U.dj i r f.1
   . exact fun f=>f.2 r
 . rw [<- U.all]
   funext i
   apply propext
   rw [hp i]
   constructor
   . rintro (r | r | r)
     . exact Or.inl r.1
     . exact Or.inr r
     . exact Or.inl (h.1 i r)
   . rintro (r | r)
     . by_cases c:i / 2 ^ k=bud p
       . exact Or.inr (Or.inr c)
       . exact Or.inl ⟨r,c⟩
     . exact Or.inr (Or.inl r)
theorem bud_lt {p k:Nat} (h:p*2 ^ k+2 ^ k<=1048576) (hk:k<10):bud p*2 ^ k+2 ^ k<=1048576:=by
 obtain ⟨d,hd⟩: ∃ d,1048576=d*2 ^ (k+1):=⟨2 ^ (19-k),by rw [<- Nat.pow_add,show 19-k+(k+1)=20 by omega]⟩
 have e:2 ^ (k+1)=2*2 ^ k:=by rw [Nat.pow_succ,Nat.mul_comm]
 have h1:(p+1)*2 ^ k<=(2*d)*2 ^ k:=by
  rw [Nat.add_mul,Nat.one_mul,Nat.mul_comm 2 d,Nat.mul_assoc,<- e,<- hd];exact h
 have h2:p+1<=2*d:=Nat.le_of_mul_le_mul_right h1 (p2pos k)
 have h3:bud p+1<=2*d:=by unfold bud;split <;> omega
 have h4:=Nat.mul_le_mul_right (2 ^ k) h3
 rw [Nat.add_mul,Nat.one_mul,Nat.mul_comm 2 d,Nat.mul_assoc,<- e,<- hd] at h4
 exact h4
theorem pow_int (k:Nat):((2:Int) ^ k)=((2 ^ k:Nat):Int):=by simp
theorem pow_small {k:Nat} (hk:k<=10):2 ^ k<=1024:=by
 have:2 ^ k<=2 ^ 10:=Nat.pow_le_pow_right (by omega) hk
 omega
theorem wrap_pow {k:Nat} (hk:k<=10):wrap64 (2 ^ k)=((2 ^ k:Nat):Int):=by
 have:=pow_small hk
 rw [pow_int];unfold wrap64;generalize 2 ^ k=P at *;omega
theorem xor_at {p k:Nat} (hk:k<=10) (h:p*2 ^ k+2 ^ k<=1048576):bits .xor .i64 ((p*2 ^ k:Nat):Int) (wrap64 (2 ^ k))=((bud p*2 ^ k:Nat):Int):=by
 have l:=pow_small hk
 rw [wrap_pow hk,i64_xor_nat _ _ (Nat.lt_of_le_of_lt (Nat.le_trans (Nat.le_add_right _ _) h) (by decide)) (Nat.lt_of_le_of_lt l (by decide)),xor_blk]
theorem not_at {p k:Nat} (hk:k<=10) (h:p*2 ^ k+2 ^ k<=1048576):bits .andNot .i64 ((p*2 ^ k:Nat):Int) (wrap64 (2 ^ k))=((p / 2*2 ^ (k+1):Nat):Int):=by
 have l:=pow_small hk
 rw [wrap_pow hk,i64_not_nat _ _ (Nat.lt_of_le_of_lt (Nat.le_trans (Nat.le_add_right _ _) h) (by decide)) (Nat.lt_of_le_of_lt l (by decide)),not_blk _ _ hk (Nat.lt_of_le_of_lt (Nat.le_trans (Nat.le_add_right _ _) h) (by decide))]
theorem rel_any (base b gb N:Nat) (mbs:Nat->Nat) (svs:Nat->Value) (F:Nat->Prop) (G:Int->Option Int) (o q:Nat) (ho:o<=10) (hq:q*2 ^ o+2 ^ o<=1048576) (hd: ∀ i,i / 2 ^ o=q-> ¬ F i) (hF:Bnd F) (hn:N<1048576) (w:World) (H:Bt w w base b gb mbs svs N (can F) G) :
 Calls Tryz.prog 104 (sf (.pointer (some ⟨b,0,none⟩)) ((q*2 ^ o:Nat):Int) o) w fun e w'=>e=.returned (.tuple #[])/\Bt w w' base b gb mbs svs (N+1) (can (fun i=>F i\/i / 2 ^ o=q)) G:=by
 have HH:Hid (Bt w w base b gb mbs svs N (can F) G):=H
 have HF:Hid (Bnd F):=hF
 have HQ:Hid (q*2 ^ o+2 ^ o<=1048576):=hq
 obtain ⟨x,hx⟩: ∃ x:Int,x=((q*2 ^ o:Nat):Int):=⟨_,rfl⟩
 rw [<- hx]
 have HU:Hid (Up F o q o x F q):=⟨hx,hd,rfl⟩
 clear H hF hq hd hx
 go_enter Tryz.func104,Tryz.ntmps104
 go_wp2_with fail
 go_loopw [1,2] (fun v u W=> ∃ (k:Nat) (y:Int),o<=k/\k<=10/\v=.int .i64 y/\u=.int .i64 k/\Hid (∃ F' p,Up F o q k y F' p/\Bt w W base b gb mbs svs N (can F') G)) (fun _ u _=>10-(intOf u).toNat)
 case atStart=>exact ⟨o,x,Nat.le_refl _,ho,rfl,rfl,⟨F,q,HU.out,HH.out⟩⟩
 case round =>
  clear HU HH
  obtain ⟨k,y,hk1,hk2,rfl,rfl,hU⟩:=hrel
  obtain ⟨F',p,U,B⟩:=hU.out
  have tp:=U.top HF.out HQ.out
  have bn:=U.bnd HF.out HQ.out
  clear hU
  have d0:decide ((k:Int)<0)=false:=by simp
  have d1:decide ((k:Int)<11)=true:=kh
  have fin:(k=10\/ ¬ cnN F' k (bud p))->Hid (∀ W',bc wr W'->Calls Tryz.prog 121 #[.pointer (some ⟨b,k*2,none⟩),.int .i64 y] W' fun e w'=>e=.returned (.tuple #[])/\Bt w w' base b gb mbs svs (N+1) (can (fun i=>F i\/i / 2 ^ o=q)) G):=fun hc W' hb=>by
   have r:=(B.below hb).add k (by omega) y (by rw [U.at_];have:=p2pos k;omega) hn (fun c=>by
    rw [U.at_] at c
    have:=((can_iff hk2).1 c).1 _ (blk_ne k p)
    exact U.dj _ (blk_ne k p) this)
   rw [U.at_,can_add hk2 U.dj hc,U.all,<- U.at_] at r
   exact r
  by_cases k10:k=10
  . subst k10
    have FN:=fin (Or.inl rfl)
    clear fin U B tp bn
    go_wp2_with fail
    go_quiet (fail)
    go_wp2_with fail
    refine Calls.mono (FN.out _ (below_drewN (Below.refl _ _) _)) ?_
    rintro e u ⟨rfl,hB⟩
    go_wp2_with fail
    go_returns
    exact ⟨rfl,hB⟩
  have k9:k<10:=by omega
  have c1:decide ((k:Int)<10)=true:=kh
  have tb:=bud_lt tp k9
  have X1:bits .xor .i64 y (wrap64 (2 ^ k))=((bud p*2 ^ k:Nat):Int):=by rw [U.at_];exact xor_at hk2 tp
  have HC:Hid (∀ W',bc wr W'->Calls Tryz.prog 119 #[.pointer (some ⟨b,k*2,none⟩),.int .i64 (bits .xor .i64 y (wrap64 (2 ^ k)))] W' fun e w'=>e=.returned (.bool (@decide (cnN F' k (bud p)) (Classical.propDecidable _)))/\w'=W'):=fun W' hb=>by
   have r:=(B.below hb).has k (by omega) ((bud p*2 ^ k:Nat):Int) ⟨by omega,by have:=p2pos k;omega⟩
   rw [<- X1] at r
   have e:(@decide (can F' k (bits .xor .i64 y (wrap64 (2 ^ k)))) (Classical.propDecidable _))=(@decide (cnN F' k (bud p)) (Classical.propDecidable _)):=by
    rw [X1,propext (@can_iff F' k (bud p) hk2)]
   rw [e] at r
   exact r
  by_cases hb:cnN F' k (bud p)
  . have HC':Hid (∀ W',bc wr W'->Calls Tryz.prog 119 #[.pointer (some ⟨b,k*2,none⟩),.int .i64 (bits .xor .i64 y (wrap64 (2 ^ k)))] W' fun e w'=>e=.returned (.bool true)/\w'=W'):=fun W' h=>by
     have r:=HC.out W' h
     simp only [hb,decide_true] at r
     exact r
    have DC:Hid (∀ W',bc wr W'->Calls Tryz.prog 120 #[.pointer (some ⟨b,k*2,none⟩),.int .i64 (bits .xor .i64 y (wrap64 (2 ^ k)))] W' fun e w'=>e=.returned (.tuple #[])/\Bt w w' base b gb mbs svs N (can (fun i=>F' i/\ ¬ i / 2 ^ k=bud p)) G):=fun W' h=>by
     have r:=(B.below h).drop k (by omega) ((bud p*2 ^ k:Nat):Int) (by omega) ((can_iff hk2).2 hb)
     rw [can_rem hk2 hb,<- X1] at r
     exact r
    have U2:Hid (Up F o q (k+1) ((p / 2*2 ^ (k+1):Nat):Int) (fun i=>F' i/\ ¬ i / 2 ^ k=bud p) (p / 2)):=U.next hb
    have X2:Hid (bits .andNot .i64 y (wrap64 (2 ^ k))=((p / 2*2 ^ (k+1):Nat):Int)):=by rw [U.at_];exact not_at hk2 tp
    clear fin U B tp bn tb X1 HC hb
    go_wp2_with fail
    go_quiet ((go_at_call 119;refine Calls.quiet_of_same (HC'.out _ (below_drewN (Below.refl _ _) _))))
    go_wp2_with fail
    go_region_with (refine Calls.mono (DC.out _ (below_drew (below_drewN (Below.refl _ _) _))) ?_;rintro e u2 ⟨rfl,hB2⟩)
    go_wp2_with fail
    go_roundw
    case rel=>exact ⟨k+1,_,by omega,by omega,by rw [X2.out],by go_num,⟨_,_,U2.out,hB2⟩⟩
    case measure=>simp [intOf];omega
  . have HC':Hid (∀ W',bc wr W'->Calls Tryz.prog 119 #[.pointer (some ⟨b,k*2,none⟩),.int .i64 (bits .xor .i64 y (wrap64 (2 ^ k)))] W' fun e w'=>e=.returned (.bool false)/\w'=W'):=fun W' h=>by
     have r:=HC.out W' h
     simp only [hb,decide_false] at r
     exact r
    have FN:=fin (Or.inr hb)
    clear fin U B tp bn tb X1 HC hb
    go_wp2_with fail
    go_quiet ((go_at_call 119;refine Calls.quiet_of_same (HC'.out _ (below_drewN (Below.refl _ _) _))))
    go_wp2_with fail
    refine Calls.mono (FN.out _ (below_drewN (Below.refl _ _) _)) ?_
    rintro e u ⟨rfl,hB⟩
    go_wp2_with fail
    go_returns
    exact ⟨rfl,hB⟩
end Go.Proofs.YtgbdnnkkcpkhdaaGreatDoor.Bd
