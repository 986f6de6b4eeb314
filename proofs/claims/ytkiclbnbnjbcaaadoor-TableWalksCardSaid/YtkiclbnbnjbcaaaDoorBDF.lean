import Derived.Test.YtkiclbnbnjbcaaaDoorBDE
namespace Go.Proofs.YtkiclbnbnjbcaaaDoor.Bd
set_option linter.unusedSimpArgs false
set_option linter.unusedVariables false
set_option maxRecDepth 8000
theorem p2pos (o:Nat):0<2 ^ o:=Nat.pow_pos (by omega)
theorem in_blk (o q i:Nat):i / 2 ^ o=q↔q*2 ^ o<=i/\i<q*2 ^ o+2 ^ o:=by
 have p:=p2pos o
 constructor
 . rintro rfl
   have e:=Nat.div_add_mod i (2 ^ o)
   have l:=Nat.mod_lt i p
   rw [Nat.mul_comm] at e
   omega
 . rintro ⟨h1,h2⟩
   exact Nat.div_eq_of_lt_le h1 (by rw [Nat.succ_mul];exact h2)
theorem blk_ne (o q:Nat):(q*2 ^ o) / 2 ^ o=q:=Nat.mul_div_cancel _ (p2pos o)
theorem div_up (i o d:Nat):i / 2 ^ (o+d)=i / 2 ^ o / 2 ^ d:=by rw [Nat.div_div_eq_div_mul,Nat.pow_add]
theorem div_one (i o:Nat):i / 2 ^ (o+1)=i / 2 ^ o / 2:=by rw [div_up]
theorem nest {o o':Nat} (h:o<=o') {i j:Nat} (e:j / 2 ^ o=i / 2 ^ o):j / 2 ^ o'=i / 2 ^ o':=by
 obtain ⟨d,rfl⟩: ∃ d,o'=o+d:=⟨o'-o,by omega⟩
 rw [div_up,div_up,e]
def cnN (F:Nat->Prop) (o q:Nat):Prop:=(∀ i,i / 2 ^ o=q->F i)/\(o=10\/ ∃ i,i / 2 ^ (o+1)=q / 2/\ ¬ F i)
def can (F:Nat->Prop) (o:Nat) (a:Int):Prop:=o<=10/\ ∃ q:Nat,a=((q*2 ^ o:Nat):Int)/\cnN F o q
theorem cn_max (F:Nat->Prop): ∀ d o q:Nat,o+d=10->(∀ i,i / 2 ^ o=q->F i)-> ∃ o' q',o<=o'/\o'<=10/\cnN F o' q'/\ ∀ i,i / 2 ^ o=q->i / 2 ^ o'=q'
 | 0, o, q, hd, h => ⟨o, q, Nat.le_refl _, by omega, ⟨h, Or.inl (by omega)⟩, fun _ e => e⟩
 | d + 1, o, q, hd, h => by
  by_cases c: ∀ i,i / 2 ^ (o+1)=q / 2->F i
  . obtain ⟨o',q',h1,h2,h3,h4⟩:=cn_max F d (o+1) (q / 2) (by omega) c
    exact ⟨o',q',by omega,h2,h3,fun i e=>h4 i (by rw [div_one,e])⟩
  . refine ⟨o,q,Nat.le_refl _,by omega,⟨h,Or.inr ?_⟩,fun _ e=>e⟩
    apply Classical.byContradiction
    intro n
    apply c
    intro i e
    apply Classical.byContradiction
    intro f
    exact n ⟨i,e,f⟩
theorem cn_dj1 {F:Nat->Prop} {o q o' q' i:Nat} (h:cnN F o q) (h':cnN F o' q') (l:o<=o') (l2:o'<=10) (e:i / 2 ^ o=q) (e':i / 2 ^ o'=q'):o=o'/\q=q':=by
 by_cases c:o=o'
 . subst c;exact ⟨rfl,e.symm.trans e'⟩
 . exfalso
   rcases h.2 with r | ⟨j,r1,r2⟩
   . omega
   . apply r2
     apply h'.1
     rw [<- e']
     apply nest (o:=o+1) (by omega)
     rw [r1,div_one,e]
theorem cn_dj {F:Nat->Prop} {o q o' q' i:Nat} (h:cnN F o q) (h':cnN F o' q') (l:o<=10) (l2:o'<=10) (e:i / 2 ^ o=q) (e':i / 2 ^ o'=q'):o=o'/\q=q':=by
 rcases Nat.le_total o o' with c | c
 . exact cn_dj1 h h' c l2 e e'
 . obtain ⟨a,b⟩:=cn_dj1 h' h c l e' e
   exact ⟨a.symm,b.symm⟩
theorem cn_rem {F:Nat->Prop} {o q:Nat} (ho:o<=10) (h:cnN F o q) (o' q':Nat) (ho':o'<=10):cnN (fun i=>F i/\ ¬ i / 2 ^ o=q) o' q'↔cnN F o' q'/\ ¬ (o'=o/\q'=q):=by
 constructor
 . rintro ⟨h1,h2⟩
   refine ⟨⟨fun i e=>(h1 i e).1,?_⟩,?_⟩
   . rcases h2 with r | ⟨i,r1,r2⟩
     . exact Or.inl r
     . apply Classical.byContradiction
       intro n
       have n1:o'≠10:=fun e=>n (Or.inl e)
       have n2: ∀ j,j / 2 ^ (o'+1)=q' / 2->F j:=fun j e=>Classical.byContradiction (fun f=>n (Or.inr ⟨j,e,f⟩))
       obtain ⟨o2,q2,g1,g2,g3,g4⟩:=cn_max F (9-o') (o'+1) (q' / 2) (by omega) n2
       have fi:=n2 i r1
       have ib:i / 2 ^ o=q:=Classical.byContradiction (fun f=>r2 ⟨fi,f⟩)
       obtain ⟨rfl,rfl⟩:=cn_dj h g3 ho g2 ib (g4 i r1)
       have k:=blk_ne o' q'
       exact (h1 _ k).2 (g4 _ (by rw [div_one,k]))
   . rintro ⟨rfl,rfl⟩
     exact (h1 _ (blk_ne _ _)).2 (blk_ne _ _)
 . rintro ⟨h1,h2⟩
   refine ⟨fun i e=>⟨h1.1 i e,fun e2=>h2 (cn_dj h1 h ho' ho e e2)⟩,?_⟩
   rcases h1.2 with r | ⟨i,r1,r2⟩
   . exact Or.inl r
   . exact Or.inr ⟨i,r1,fun f=>r2 f.1⟩
def bud (q:Nat):Nat:=if q % 2=0 then q+1 else q-1
theorem bud_half (q:Nat):bud q / 2=q / 2:=by unfold bud;split <;> omega
theorem bud_ne (q:Nat):bud q≠q:=by unfold bud;split <;> omega
theorem cn_part {F:Nat->Prop} {o q:Nat} (hd: ∀ i,i / 2 ^ o=q-> ¬ F i) (hb:o=10\/ ¬ cnN F o (bud q)):o=10\/ ∃ i,i / 2 ^ (o+1)=q / 2/\ ¬ (F i\/i / 2 ^ o=q):=by
 rcases hb with r | r
 . exact Or.inl r
 . by_cases c10:o=10
   . exact Or.inl c10
   right
   apply Classical.byContradiction
   intro n
   apply r
   refine ⟨fun i e=> ?_,Or.inr ⟨q*2 ^ o,by rw [div_one,blk_ne,bud_half],hd _ (blk_ne _ _)⟩⟩
   apply Classical.byContradiction
   intro f
   refine n ⟨i,by rw [div_one,e,bud_half],?_⟩
   rintro (g | g)
   . exact f g
   . exact bud_ne q (e.symm.trans g)
theorem cn_add {F:Nat->Prop} {o q:Nat} (ho:o<=10) (hd: ∀ i,i / 2 ^ o=q-> ¬ F i) (hb:o=10\/ ¬ cnN F o (bud q)) (o' q':Nat) (ho':o'<=10):cnN (fun i=>F i\/i / 2 ^ o=q) o' q'↔cnN F o' q'\/(o'=o/\q'=q):=by
 have P:=cn_part hd hb
 constructor
 . rintro ⟨h1,h2⟩
   by_cases c: ∃ i,i / 2 ^ o'=q'/\i / 2 ^ o=q
   . obtain ⟨i,c1,c2⟩:=c
     rcases Nat.lt_trichotomy o' o with l | l | l
     . exfalso
       rcases h2 with r | ⟨j,r1,r2⟩
       . omega
       . apply r2
         right
         rw [<- c2]
         apply nest (o:=o'+1) (by omega)
         rw [r1,div_one,c1]
     . subst l;exact Or.inr ⟨rfl,c1.symm.trans c2⟩
     . exfalso
       rcases P with r | ⟨j,r1,r2⟩
       . omega
       . apply r2
         apply h1
         rw [<- c1]
         apply nest (o:=o+1) (by omega)
         rw [r1,div_one,c2]
   . left
     refine ⟨fun i e=> ?_,?_⟩
     . rcases h1 i e with f | f
       . exact f
       . exact absurd ⟨i,e,f⟩ c
     . rcases h2 with r | ⟨j,r1,r2⟩
       . exact Or.inl r
       . exact Or.inr ⟨j,r1,fun f=>r2 (Or.inl f)⟩
 . rintro (h | ⟨rfl,rfl⟩)
   . refine ⟨fun i e=>Or.inl (h.1 i e),?_⟩
     rcases h.2 with r | ⟨i,r1,r2⟩
     . exact Or.inl r
     . by_cases c:i / 2 ^ o=q
       . by_cases l:o'+1<=o
         . exfalso
           have k:=blk_ne o' q'
           refine hd _ ?_ (h.1 _ k)
           rw [<- c]
           apply nest (o:=o'+1) l
           rw [div_one,k,r1]
         . rcases P with p | ⟨j,p1,p2⟩
           . left;omega
           . right
             refine ⟨j,?_,p2⟩
             rw [<- r1]
             apply nest (o:=o+1) (by omega)
             rw [p1,div_one,c]
       . exact Or.inr ⟨i,r1,fun f=>f.elim r2 c⟩
   . exact ⟨fun i e=>Or.inr e,P⟩
theorem mul_inj {o q q':Nat} (e:((q*2 ^ o:Nat):Int)=((q'*2 ^ o:Nat):Int)):q=q':=Nat.eq_of_mul_eq_mul_right (p2pos o) (Int.ofNat.inj e)
theorem can_iff {F:Nat->Prop} {o q:Nat} (ho:o<=10):can F o ((q*2 ^ o:Nat):Int)↔cnN F o q :=
 ⟨fun ⟨_,q',e,h⟩=>by rw [mul_inj e];exact h,fun h=>⟨ho,q,rfl,h⟩⟩
theorem can_rem {F:Nat->Prop} {o q:Nat} (ho:o<=10) (h:cnN F o q):upd (can F) o (fun a=>can F o a/\a≠((q*2 ^ o:Nat):Int))=can (fun i=>F i/\ ¬ i / 2 ^ o=q):=by
 funext o' a
 apply propext
 unfold upd
 by_cases c:o'=o
 . subst c
   rw [if_pos rfl]
   constructor
   . rintro ⟨⟨l,q',e,h'⟩,n⟩
     exact ⟨l,q',e,(cn_rem ho h o' q' l).2 ⟨h',fun e2=>n (by rw [e,e2.2])⟩⟩
   . rintro ⟨l,q',e,h'⟩
     have:=(cn_rem ho h o' q' l).1 h'
     exact ⟨⟨l,q',e,this.1⟩,fun e2=>this.2 ⟨rfl,mul_inj (e.symm.trans e2)⟩⟩
 . rw [if_neg c]
   constructor
   . rintro ⟨l,q',e,h'⟩
     exact ⟨l,q',e,(cn_rem ho h o' q' l).2 ⟨h',fun e2=>c e2.1⟩⟩
   . rintro ⟨l,q',e,h'⟩
     exact ⟨l,q',e,((cn_rem ho h o' q' l).1 h').1⟩
theorem can_add {F:Nat->Prop} {o q:Nat} (ho:o<=10) (hd: ∀ i,i / 2 ^ o=q-> ¬ F i) (hb:o=10\/ ¬ cnN F o (bud q)):upd (can F) o (fun a=>can F o a\/a=((q*2 ^ o:Nat):Int))=can (fun i=>F i\/i / 2 ^ o=q):=by
 funext o' a
 apply propext
 unfold upd
 by_cases c:o'=o
 . subst c
   rw [if_pos rfl]
   constructor
   . rintro (⟨l,q',e,h'⟩ | e)
     . exact ⟨l,q',e,(cn_add ho hd hb o' q' l).2 (Or.inl h')⟩
     . exact ⟨ho,q,e,(cn_add ho hd hb o' q ho).2 (Or.inr ⟨rfl,rfl⟩)⟩
   . rintro ⟨l,q',e,h'⟩
     rcases (cn_add ho hd hb o' q' l).1 h' with r | ⟨_,r⟩
     . exact Or.inl ⟨l,q',e,r⟩
     . exact Or.inr (by rw [e,r])
 . rw [if_neg c]
   constructor
   . rintro ⟨l,q',e,h'⟩
     exact ⟨l,q',e,(cn_add ho hd hb o' q' l).2 (Or.inl h')⟩
   . rintro ⟨l,q',e,h'⟩
     rcases (cn_add ho hd hb o' q' l).1 h' with r | ⟨r,_⟩
     . exact ⟨l,q',e,r⟩
     . exact absurd r c
def Bnd (F:Nat->Prop):Prop:= ∀ i,F i->i<1048576
theorem can_last {F:Nat->Prop} {o q:Nat} (h:cnN F o q):F (q*2 ^ o+(2 ^ o-1)):=h.1 _ ((in_blk o q _).2 ⟨by omega,by have:=p2pos o;omega⟩)
theorem can_inv {F:Nat->Prop} (B:Bnd F):FInv (can F):=by
 constructor
 . rintro o a ho ⟨l,q,rfl,h⟩
   have:=B _ (can_last h)
   have p:=p2pos o
   refine ⟨by omega,?_⟩
   have e:((2:Int) ^ o)=((2 ^ o:Nat):Int):=by simp
   rw [e]
   omega
 . rintro o a o' a' ho ho' ⟨l,q,rfl,h⟩ ⟨l',q',rfl,h'⟩
   apply Classical.byContradiction
   intro n
   have e:((2:Int) ^ o)=((2 ^ o:Nat):Int):=by simp
   have e':((2:Int) ^ o')=((2 ^ o':Nat):Int):=by simp
   rw [e,e'] at n
   have p:=p2pos o
   have p':=p2pos o'
   have m1:(max (q*2 ^ o) (q'*2 ^ o')) / 2 ^ o=q:=(in_blk o q _).2 ⟨by omega,by omega⟩
   have m2:(max (q*2 ^ o) (q'*2 ^ o')) / 2 ^ o'=q':=(in_blk o' q' _).2 ⟨by omega,by omega⟩
   obtain ⟨r1,r2⟩:=cn_dj h h' l l' m1 m2
   exact n (Or.inl ⟨r1,by rw [r1,r2]⟩)
theorem half_blk (k q i:Nat):i / 2 ^ (k+1)=q↔i / 2 ^ k=2*q\/i / 2 ^ k=2*q+1:=by
 rw [div_one];omega
theorem take_can {F:Nat->Prop} {f q:Nat} (hf:f<=10) (h:cnN F f q): ∀ d k:Nat,k+d=f->takeA (can F) f ((q*2 ^ f:Nat):Int) k=can (fun i=>F i/\ ¬ i / 2 ^ k=q*2 ^ d)
 | 0, k, e => by
  have:k=f:=by omega
  subst this
  rw [<- take_first,can_rem hf h];simp
 | d + 1, k, e => by
  have ih:=take_can hf h d (k+1) (by omega)
  have e1:q*2 ^ (d+1)=2*(q*2 ^ d):=by rw [Nat.pow_succ];rw [Nat.mul_comm (2 ^ d) 2,<- Nat.mul_assoc,Nat.mul_comm q 2,Nat.mul_assoc]
  have hx:((q*2 ^ f:Nat):Int)+2 ^ k=(((2*(q*2 ^ d)+1)*2 ^ k:Nat):Int):=by
   have:q*2 ^ f=2*(q*2 ^ d)*2 ^ k:=by rw [<- e1,Nat.mul_assoc,<- Nat.pow_add,show d+1+k=f by omega]
   rw [this,Nat.add_mul,Nat.one_mul];simp [Int.add_mul]
  rw [<- take_step _ _ _ _ (by omega:k<f),ih,hx,can_add (by omega)]
  . congr 1
    funext i
    apply propext
    rw [half_blk,e1]
    constructor
    . rintro (⟨a,b⟩ | a)
      . exact ⟨a,fun c=>b (Or.inl c)⟩
      . refine ⟨?_,by omega⟩
        apply h.1
        obtain ⟨d',rfl⟩: ∃ d',d'=d:=⟨d,rfl⟩
        rw [<- e,div_up,Nat.pow_succ,Nat.mul_comm (2 ^ d') 2,<- Nat.div_div_eq_div_mul,a,show (2*(q*2 ^ d')+1) / 2=q*2 ^ d' by omega,Nat.mul_div_cancel _ (p2pos d')]
    . rintro ⟨a,b⟩
      by_cases c:i / 2 ^ k=2*(q*2 ^ d)+1
      . exact Or.inr c
      . exact Or.inl ⟨a,fun s=>s.elim b c⟩
  . intro i hi hF
    exact hF.2 ((half_blk _ _ _).2 (Or.inr hi))
  . right
    intro hc
    have:=hc.1 (2*(q*2 ^ d)*2 ^ k) (by rw [blk_ne];unfold bud;rw [if_neg (by omega)];omega)
    exact this.2 ((half_blk _ _ _).2 (Or.inl (blk_ne _ _)))
end Go.Proofs.YtkiclbnbnjbcaaaDoor.Bd
