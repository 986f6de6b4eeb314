import Derived.Test.YtlaiadheelgbdaaGreatGAc
import Derived.Test.YtlaiadheelgbdaaGreatKZc
import Derived.RegionTactic
import Derived.BigRegion
import Derived.Deep.DeepCutAuto
namespace Go.Proofs.YtlaiadheelgbdaaGreat.Re
open Go.ChangeShapes Go.WideShapes Go.ChangeAt Go.RowKit Go.Maps
set_option linter.unusedSimpArgs false
set_option linter.unusedVariables false
set_option maxRecDepth 8000
def Rg.may (r:Rg) (a b c:Bool):Rg:=⟨r.fr,r.tt,a,b,c,r.kd⟩
def Rg.mid (r:Rg) (f t:Int):Rg:=⟨max r.fr f,min r.tt t,r.w,r.u,r.x,r.kd⟩
def Rg.from (r:Rg) (t:Int):Rg:=⟨t,r.tt,r.w,r.u,r.x,r.kd⟩
def part (G:Rg->Rg) (f t:Int) (M:List Rg) (r:Rg):List Rg:=withL (withL (withL M (r.upto (min r.tt f))) (G (r.mid f t))) (r.from (max r.fr t))
def Res (w':World) (base:Nat) (v:Value) (er:Int) (M:List Rg):Prop:=(M.length<=64/\er=0/\OwnL w' base v M)\/(64<M.length/\er=4/\v=.slice none 0 0)
theorem WithK.below {w w':World} {v v':Value} {b:Nat} {L:List Rg} (h:WithK w w' v v') (ho:OwnL w b v L) (hb:b<=w.heap.size):Below b w w':=⟨h.1.os,h.1.tape,h.1.output,h.1.size,fun k hk=>h.1.block k (by omega) (fun e=>by have:=World.ownsRow.lt ho k e.symm;omega)⟩
theorem blk_lt {w:World} {b:Nat} {o:Obj} (h:w.heap[b]? =some o):b<w.heap.size:=(Array.getElem?_eq_some_iff.1 h).1
end Go.Proofs.YtlaiadheelgbdaaGreat.Re
namespace Go.Proofs.YtlaiadheelgbdaaGreat.Re
open Go.ChangeShapes Go.WideShapes Go.ChangeAt Go.RowKit Go.Maps
set_option linter.unusedSimpArgs false
set_option linter.unusedVariables false
set_option maxRecDepth 8000
theorem good_at {L:List Rg} (h:goodB L=true):L.length<=64/\ ∀ i,i<L.length->(0<=(L.getD i Rg.zero).fr/\(L.getD i Rg.zero).fr<(L.getD i Rg.zero).tt/\(L.getD i Rg.zero).tt<=34359738368)/\(i+1<L.length->(L.getD i Rg.zero).tt<=(L.getD (i+1) Rg.zero).fr/\(L.getD i Rg.zero).joins (L.getD (i+1) Rg.zero)=false):=by
 unfold goodB at h
 rw [Bool.and_eq_true,allB_iff] at h
 obtain ⟨h1,h2⟩:=h
 have e: ∀ i,i<L.length->endAt L i<=(L.getD i Rg.zero).fr/\(L.getD i Rg.zero).fr<(L.getD i Rg.zero).tt/\(L.getD i Rg.zero).tt<=34359738368/\jnAt L i=false:=fun i hi=>by
  have:=h2 i hi
  unfold okAt okR at this
  generalize L.getD i Rg.zero=rr at this |-
  simp at this
  obtain ⟨⟨a,b,c⟩,d⟩:=this
  exact ⟨by omega,by omega,by omega,by simpa using d⟩
 have z: ∀ i,i<L.length->0<=(L.getD i Rg.zero).fr:=by
  intro i
  induction i with
  | zero => intro hi; have := (e 0 hi).1; exact this
  | succ n ih =>
   intro hi
   have q:=ih (by omega)
   have a:=e n (by omega)
   have b:=(e (n+1) hi).1
   have:endAt L (n+1)=(L.getD n Rg.zero).tt:=rfl
   omega
 refine ⟨by simpa using h1,fun i hi=>⟨⟨z i hi,(e i hi).2.1,(e i hi).2.2.1⟩,fun hj=>⟨(e (i+1) hj).1,(e (i+1) hj).2.2.2⟩⟩⟩
theorem good_num {L:List Rg} (h:goodB L=true):NumL L:=fun k hk=>by
 have:=((good_at h).2 k hk).1
 exact ⟨by omega,by omega⟩
theorem check_zero {L:List Rg} {f t:Int} (h:checkN L f t=0):rightB f t=true/\goodB L=true:=by
 unfold checkN at h
 by_cases a:rightB f t=true
 . rw [if_pos a] at h
   by_cases b:goodB L=true
   . exact ⟨a,b⟩
   . rw [if_neg b] at h;omega
 . rw [if_neg a] at h;omega
def lowR (f:Int) (r:Rg):Bool:=decide (r.tt<=f)
def aheadN (L:List Rg) (f:Int):Nat:=(L.takeWhile (lowR f)).length
theorem ahead_is (f:Int): ∀ (L:List Rg) (k:Nat),k<=L.length->(∀ j,j<k->(L.getD j Rg.zero).tt<=f)->(k=L.length\/f<(L.getD k Rg.zero).tt)->aheadN L f=k
 | [], k, h, _, _ => by
  have:k=0:=by simpa using h
  subst this;rfl
 | r :: l, 0, _, _, h => by
  rcases h with h | h
  . simp at h
  . have: ¬ (r.tt<=f):=by have:=h;simp [List.getD] at this;omega
    unfold aheadN;rw [List.takeWhile_cons_of_neg (by unfold lowR;simpa using this)];rfl
 | r :: l, k + 1, hk, hj, h => by
  have h0:r.tt<=f:=by have:=hj 0 (by omega);simpa [List.getD] using this
  unfold aheadN
  rw [List.takeWhile_cons_of_pos (by unfold lowR;simpa using h0),List.length_cons]
  congr 1
  refine ahead_is f l k (by simpa using hk) (fun j q=>by have:=hj (j+1) (by omega);simpa [List.getD] using this) ?_
  rcases h with h | h
  . left;simpa using h
  . right;simpa [List.getD] using h
def preL (M:List Rg) (L:List Rg):List Rg:=L.foldl withL M
theorem pre_next (M L:List Rg) (m:Nat) (h:m<L.length):preL M (L.take (m+1))=withL (preL M (L.take m)) (L.getD m Rg.zero):=by
 unfold preL;rw [takeR_next L m h,List.foldl_append];rfl
theorem pre_len (M L:List Rg): ∀ m,m<=L.length->(preL M (L.take m)).length<=M.length+m
 | 0, _ => by simp [preL]
 | m + 1, h => by
  rw [pre_next M L m (by omega)]
  have h1:=pre_len M L m (by omega)
  have h2:=withL_len (preL M (L.take m)) (L.getD m Rg.zero)
  omega
def addL (L:List Rg) (r:Rg):List Rg:=preL (withL (preL [] (L.take (aheadN L r.fr))) r) (L.drop (aheadN L r.fr))
def addN (L:List Rg) (r:Rg):Int:=if checkN L r.fr r.tt=0 then (if 0<cntR r.fr r.tt L then 6 else 0) else checkN L r.fr r.tt
end Go.Proofs.YtlaiadheelgbdaaGreat.Re
namespace Go.Proofs.YtlaiadheelgbdaaGreat.Re
set_option linter.unusedSimpArgs false
set_option linter.unusedVariables false
set_option maxRecDepth 8000
abbrev Att:=Bool × Bool × Bool × Int
def Rg.att (r:Rg):Att:=(r.w,r.u,r.x,r.kd)
def atR:List Rg->Int->Option Att
 | [], _ => none
 | r :: l, x => if r.fr ≤ x ∧ x < r.tt then some r.att else atR l x
def Can (e:Int):List Rg->Prop
 | [] => True
 | r :: l => (e ≤ r.fr ∧ r.fr < r.tt) ∧ Can r.tt l ∧ ∀ c, l.head? = some c → r.joins c = false
def endL (e:Int):List Rg->Int
 | [] => e
 | r :: l => endL r.tt l
theorem can_end: ∀ (L:List Rg) (e:Int),Can e L->e<=endL e L
 | [], e, _ => Int.le_refl _
 | r :: l, e, h => by
  have:=can_end l r.tt h.2.1
  have:=h.1
  show e<=endL r.tt l
  omega
theorem at_high: ∀ (L:List Rg) (e x:Int),Can e L->endL e L<=x->atR L x=none
 | [], _, _, _, _ => rfl
 | r :: l, e, x, h, hx => by
  have h1:=can_end l r.tt h.2.1
  have h2:endL r.tt l<=x:=hx
  unfold atR
  rw [if_neg (by omega)]
  exact at_high l r.tt x h.2.1 h2
theorem at_append (M:List Rg) (x:Int): ∀ L:List Rg,atR (L++M) x=(atR L x).or (atR M x)
 | [] => by simp [atR]
 | r :: l => by
  show (if r.fr<=x/\x<r.tt then some r.att else atR (l++M) x)=(if r.fr<=x/\x<r.tt then some r.att else atR l x).or (atR M x)
  by_cases c:r.fr<=x/\x<r.tt
  . rw [if_pos c,if_pos c];rfl
  . rw [if_neg c,if_neg c];exact at_append M x l
theorem last_cons (r a:Rg) (l:List Rg):lastR (r::a::l)=lastR (a::l):=by
 unfold lastR
 simp [List.getD]
theorem end_last: ∀ (L:List Rg) (e:Int),0<L.length->endL e L=(lastR L).tt
 | [], _, h => absurd h (Nat.lt_irrefl _)
 | [r], _, _ => rfl
 | r :: a :: l, e, _ => by
  rw [last_cons]
  exact end_last (a::l) r.tt (by simp)
theorem can_snoc: ∀ (L:List Rg) (e:Int) (r:Rg),Can e L->endL e L<=r.fr->r.fr<r.tt->(0<L.length->(lastR L).joins r=false)->Can e (L++[r])/\endL e (L++[r])=r.tt
 | [], e, r, _, h1, h2, _ => ⟨⟨⟨h1, h2⟩, trivial, fun c hc => by simp at hc⟩, rfl⟩
 | [a], e, r, h, h1, h2, h3 => by
  have h1':a.tt<=r.fr:=h1
  refine ⟨⟨h.1,⟨⟨h1',h2⟩,trivial,fun c hc=>by simp at hc⟩,fun c hc=> ?_⟩,rfl⟩
  have:c=r:=by simpa using hc.symm
  subst this;exact h3 (by simp)
 | a :: b :: l, e, r, h, h1, h2, h3 => by
  obtain ⟨i1,i2⟩:=can_snoc (b::l) a.tt r h.2.1 h1 h2 (fun _=>by have:=h3 (by simp);rwa [last_cons] at this)
  exact ⟨⟨h.1,i1,fun c hc=>h.2.2 c (by simpa using hc)⟩,i2⟩
def extL:List Rg->Int->List Rg
 | [], _ => []
 | [a], t => [a.upto t]
 | a :: b :: l, t => a :: extL (b :: l) t
theorem set_ext: ∀ (L:List Rg) (t:Int),0<L.length->L.set (L.length-1) ((lastR L).upto t)=extL L t
 | [], _, h => absurd h (Nat.lt_irrefl _)
 | [a], t, _ => rfl
 | a :: b :: l, t, _ => by
  have:=set_ext (b::l) t (by simp)
  rw [last_cons]
  show (a::b::l).set ((b::l).length) _=a::extL (b::l) t
  rw [<- this]
  rfl
theorem joins_upto (a c:Rg) (t:Int):a.joins (c.upto t)=a.joins c:=rfl
theorem ext_head: ∀ (L:List Rg) (t:Int) (a:Rg),(∀ c,L.head? =some c->a.joins c=false)-> ∀ c,(extL L t).head? =some c->a.joins c=false
 | [], _, _, h => h
 | [b], t, a, h => fun c hc => by
  have:c=b.upto t:=by simpa [extL] using hc.symm
  subst this;rw [joins_upto];exact h b rfl
 | b :: d :: l, t, a, h => fun c hc => h c (by simpa [extL] using hc)
theorem ext_can: ∀ (L:List Rg) (e t:Int),Can e L->0<L.length->endL e L<=t->Can e (extL L t)/\endL e (extL L t)=t
 | [], _, _, _, h, _ => absurd h (Nat.lt_irrefl _)
 | [a], e, t, h, _, ht => by
  have h1:=h.1
  have ht':a.tt<=t:=ht
  exact ⟨⟨⟨h1.1,by show a.fr<t;omega⟩,trivial,fun c hc=>by simp at hc⟩,rfl⟩
 | a :: b :: l, e, t, h, _, ht => by
  obtain ⟨i1,i2⟩:=ext_can (b::l) a.tt t h.2.1 (by simp) ht
  exact ⟨⟨h.1,i1,ext_head (b::l) t a h.2.2⟩,i2⟩
theorem ext_at: ∀ (L:List Rg) (e t x:Int),Can e L->0<L.length->endL e L<=t->atR (extL L t) x=(atR L x).or (if endL e L<=x/\x<t then some (lastR L).att else none)
 | [], _, _, _, _, h, _ => absurd h (Nat.lt_irrefl _)
 | [a], e, t, x, h, _, ht => by
  have ht':a.tt<=t:=ht
  have h1:=h.1
  show (if a.fr<=x/\x<t then some a.att else none)=(if a.fr<=x/\x<a.tt then some a.att else none).or (if a.tt<=x/\x<t then some a.att else none)
  by_cases c:a.fr<=x/\x<a.tt
  . rw [if_pos c,if_pos (by omega)];rfl
  . rw [if_neg c]
    by_cases d:a.tt<=x/\x<t
    . rw [if_pos d,if_pos (by omega)];rfl
    . rw [if_neg d,if_neg (by omega)];rfl
 | a :: b :: l, e, t, x, h, _, ht => by
  have i:=ext_at (b::l) a.tt t x h.2.1 (by simp) ht
  rw [last_cons]
  show (if a.fr<=x/\x<a.tt then some a.att else atR (extL (b::l) t) x)=(if a.fr<=x/\x<a.tt then some a.att else atR (b::l) x).or (if endL a.tt (b::l)<=x/\x<t then some (lastR (b::l)).att else none)
  by_cases c:a.fr<=x/\x<a.tt
  . rw [if_pos c,if_pos c];rfl
  . rw [if_neg c,if_neg c];exact i
theorem joins_is {a b:Rg} (h:a.joins b=true):a.tt=b.fr/\a.att=b.att:=by
 unfold Rg.joins Rg.perm at h
 simp at h
 obtain ⟨h1,⟨h2,h3,h4⟩,h5⟩:=h
 exact ⟨h1,by unfold Rg.att;rw [h2,h3,h4,h5]⟩
def Rg.pg (r:Rg) (x:Int):Option Att:=if r.fr<=x/\x<r.tt then some r.att else none
theorem with_can (L:List Rg) (e:Int) (r:Rg) (h:Can e L) (hr:r.fr<r.tt->endL e L<=r.fr):Can e (withL L r)/\endL e (withL L r)=(if r.fr<r.tt then r.tt else endL e L)/\ ∀ x,atR (withL L r) x=(atR L x).or (r.pg x):=by
 unfold withL
 by_cases c:r.tt<=r.fr
 . rw [if_pos c,if_neg (by omega)]
   refine ⟨h,rfl,fun x=> ?_⟩
   unfold Rg.pg;rw [if_neg (by omega)];simp
 . have hc:r.fr<r.tt:=by omega
   have hr':=hr hc
   rw [if_neg c,if_pos hc]
   by_cases d:0<L.length/\(lastR L).joins r=true
   . obtain ⟨d1,d2⟩:=d
     rw [if_pos ⟨d1,d2⟩,set_ext L r.tt d1]
     obtain ⟨j1,j2⟩:=joins_is d2
     have el:=end_last L e d1
     obtain ⟨i1,i2⟩:=ext_can L e r.tt h d1 (by omega)
     refine ⟨i1,i2,fun x=> ?_⟩
     rw [ext_at L e r.tt x h d1 (by omega),j2,el,j1];rfl
   . rw [if_neg d]
     obtain ⟨i1,i2⟩:=can_snoc L e r h hr' hc (fun q=>by
      cases k:(lastR L).joins r
      . rfl
      . exact absurd ⟨q,k⟩ d)
     refine ⟨i1,i2,fun x=> ?_⟩
     rw [at_append];rfl
theorem or_assoc4 (a b c:Option Att):(a.or b).or c=a.or (b.or c):=by cases a <;> rfl
theorem pre_can: ∀ (L M:List Rg) (e:Int),Can e M->Can (endL e M) L->Can e (preL M L)/\endL e (preL M L)=endL (endL e M) L/\ ∀ x,atR (preL M L) x=(atR M x).or (atR L x)
 | [], M, e, h, _ => ⟨h, rfl, fun x => by show atR M x = (atR M x).or none; simp⟩
 | r :: l, M, e, h, hl => by
  have h1:=hl.1
  obtain ⟨a1,a2,a3⟩:=with_can M e r h (fun _=>h1.1)
  rw [if_pos h1.2] at a2
  obtain ⟨b1,b2,b3⟩:=pre_can l (withL M r) e a1 (by rw [a2];exact hl.2.1)
  refine ⟨b1,by show endL e (preL (withL M r) l)=_;rw [b2,a2];rfl,fun x=> ?_⟩
  show atR (preL (withL M r) l) x=_
  rw [b3,a3,or_assoc4]
  congr 1
  unfold Rg.pg
  show (if r.fr<=x/\x<r.tt then some r.att else none).or (atR l x)=if r.fr<=x/\x<r.tt then some r.att else atR l x
  by_cases c:r.fr<=x/\x<r.tt
  . rw [if_pos c,if_pos c];rfl
  . rw [if_neg c,if_neg c];rfl
end Go.Proofs.YtlaiadheelgbdaaGreat.Re
namespace Go.Proofs.YtlaiadheelgbdaaGreat.Re
set_option linter.unusedSimpArgs false
set_option linter.unusedVariables false
set_option maxRecDepth 8000
theorem getD_succ (r:Rg) (l:List Rg) (i:Nat):(r::l).getD (i+1) Rg.zero=l.getD i Rg.zero:=by simp [List.getD]
theorem getD_zero (r:Rg) (l:List Rg):(r::l).getD 0 Rg.zero=r:=rfl
theorem can_idx: ∀ (L:List Rg) (e:Int),Can e L-> ∀ i,i<L.length->(L.getD i Rg.zero).fr<(L.getD i Rg.zero).tt/\(L.getD i Rg.zero).tt<=endL e L/\(i=0->e<=(L.getD i Rg.zero).fr)/\(i+1<L.length->(L.getD i Rg.zero).tt<=(L.getD (i+1) Rg.zero).fr/\(L.getD i Rg.zero).joins (L.getD (i+1) Rg.zero)=false)
 | [], _, _, i, hi => absurd hi (Nat.not_lt_zero _)
 | r :: l, e, h, 0, _ => by
  rw [getD_zero,getD_succ]
  refine ⟨h.1.2,can_end l r.tt h.2.1,fun _=>h.1.1,fun q=> ?_⟩
  cases l with
  | nil => simp at q
  | cons d l' => exact ⟨h.2.1.1.1, h.2.2 d rfl⟩
 | r :: l, e, h, i + 1, hi => by
  have:=can_idx l r.tt h.2.1 i (by simpa using hi)
  rw [getD_succ,getD_succ]
  exact ⟨this.1,this.2.1,fun q=>by omega,fun q=>this.2.2.2 (by simpa using q)⟩
theorem can_good {L:List Rg} (h:Can 0 L) (h1:endL 0 L<=34359738368) (h2:L.length<=64):goodB L=true:=by
 unfold goodB
 rw [Bool.and_eq_true,allB_iff]
 refine ⟨by simpa using h2,fun i hi=> ?_⟩
 have a:=can_idx L 0 h i hi
 unfold okAt
 cases i with
 | zero =>
  have z:=a.2.2.1 rfl
  have e0:endAt L 0=0:=rfl
  have j0:jnAt L 0=false:=rfl
  rw [e0,j0]
  generalize L.getD 0 Rg.zero=r at a z
  unfold okR
  simp
  omega
 | succ n =>
  have b:=(can_idx L 0 h n (by omega)).2.2.2 hi
  have e0:endAt L (n+1)=(L.getD n Rg.zero).tt:=rfl
  have j0:jnAt L (n+1)=(L.getD n Rg.zero).joins (L.getD (n+1) Rg.zero):=rfl
  rw [e0,j0,b.2]
  generalize L.getD n Rg.zero=q at b
  generalize L.getD (n+1) Rg.zero=r at a b
  unfold okR
  simp
  omega
theorem can_split: ∀ (A B:List Rg) (e:Int),Can e (A++B)->Can e A/\Can (endL e A) B
 | [], B, e, h => ⟨trivial, h⟩
 | r :: l, B, e, h => by
  obtain ⟨a,b⟩:=can_split l B r.tt h.2.1
  refine ⟨⟨h.1,a,fun c hc=>h.2.2 c ?_⟩,b⟩
  cases l with
  | nil => simp at hc
  | cons d l' => simpa using hc
theorem ahead_take (f:Int): ∀ L:List Rg,L.take (aheadN L f)=L.takeWhile (lowR f)/\L.drop (aheadN L f)=L.dropWhile (lowR f)
 | [] => ⟨rfl, rfl⟩
 | r :: l => by
  obtain ⟨a,b⟩:=ahead_take f l
  unfold aheadN at a b |-
  by_cases c:lowR f r=true
  . rw [List.takeWhile_cons_of_pos c,List.dropWhile_cons_of_pos c,List.length_cons,List.take_succ_cons,List.drop_succ_cons,a,b];exact ⟨rfl,rfl⟩
  . rw [List.takeWhile_cons_of_neg c,List.dropWhile_cons_of_neg c];exact ⟨rfl,rfl⟩
theorem end_tw (f:Int): ∀ (L:List Rg) (e:Int),e<=f->endL e (L.takeWhile (lowR f))<=f
 | [], e, h => h
 | r :: l, e, h => by
  by_cases c:lowR f r=true
  . rw [List.takeWhile_cons_of_pos c]
    exact end_tw f l r.tt (by unfold lowR at c;simpa using c)
  . rw [List.takeWhile_cons_of_neg c];exact h
theorem len_nn (r:Rg) (p q:Int):0<=r.len p q:=by unfold Rg.len;split <;> omega
theorem cnt_nn (p q:Int): ∀ L:List Rg,0<=cntR p q L
 | [] => Int.le_refl _
 | r :: l => by have := cnt_nn p q l; have := len_nn r p q; show 0 ≤ r.len p q + cntR p q l; omega
theorem drop_head (f:Int) (c:Rg) (B:List Rg): ∀ L:List Rg,L.dropWhile (lowR f)=c::B->f<c.tt
 | [], h => by simp at h
 | r :: l, h => by
  by_cases k:lowR f r=true
  . rw [List.dropWhile_cons_of_pos k] at h;exact drop_head f c B l h
  . rw [List.dropWhile_cons_of_neg k] at h
    have:r=c:=(List.cons.inj h).1
    subst this
    unfold lowR at k
    simpa using k
theorem add_can {L:List Rg} (h:Can 0 L) (r:Rg) (h0:0<=r.fr) (h1:r.fr<r.tt) (hz: ¬ 0<cntR r.fr r.tt L):Can 0 (addL L r)/\endL 0 (addL L r)<=max r.tt (endL 0 L)/\ ∀ x,atR (addL L r) x=if r.fr<=x/\x<r.tt then some r.att else atR L x:=by
 obtain ⟨t1,t2⟩:=ahead_take r.fr L
 unfold addL
 rw [t1,t2]
 have eL:L=L.takeWhile (lowR r.fr)++L.dropWhile (lowR r.fr):=(List.takeWhile_append_dropWhile).symm
 have eA:=end_tw r.fr L 0 h0
 have hd:=drop_head r.fr
 generalize hA:L.takeWhile (lowR r.fr)=A at eL eA |-
 generalize hB:L.dropWhile (lowR r.fr)=B at eL |-
 rw [eL] at h hz
 obtain ⟨s1,s2⟩:=can_split A B 0 h
 obtain ⟨p1,p2,p3⟩:=pre_can A [] 0 trivial s1
 have p2':endL 0 (preL [] A)=endL 0 A:=p2
 obtain ⟨w1,w2,w3⟩:=with_can (preL [] A) 0 r p1 (fun _=>by omega)
 rw [if_pos h1] at w2
 have cB:Can r.tt B/\(B=[]\/ ∃ c B',B=c::B'/\r.tt<=c.fr):=by
  cases B with
  | nil => exact ⟨trivial, Or.inl rfl⟩
  | cons c B' =>
   have k1:=hd c B' L hB
   have k2:=s2.1
   have k3:c.len r.fr r.tt=0:=by
    rw [cntR_append] at hz
    have z1:=cnt_nn r.fr r.tt A
    have z2:=cnt_nn r.fr r.tt B'
    have z3:=len_nn c r.fr r.tt
    have z4:cntR r.fr r.tt (c::B')=c.len r.fr r.tt+cntR r.fr r.tt B':=rfl
    omega
   have k4:r.tt<=c.fr:=by
    unfold Rg.len at k3
    by_cases q:max c.fr r.fr<min c.tt r.tt
    . rw [if_pos q] at k3;omega
    . omega
   exact ⟨⟨⟨k4,k2.2⟩,s2.2.1,s2.2.2⟩,Or.inr ⟨c,B',rfl,k4⟩⟩
 obtain ⟨q1,q2,q3⟩:=pre_can B (withL (preL [] A) r) 0 w1 (by rw [w2];exact cB.1)
 rw [w2] at q2
 refine ⟨q1,?_,fun x=> ?_⟩
 . rw [q2,eL]
   cases B with
   | nil => show r.tt ≤ _; omega
   | cons c B' =>
    have: ∀ (A:List Rg) (e:Int),endL e (A++c::B')=endL c.tt B':=fun A=>by
     induction A with
     | nil => intro e; rfl
     | cons a A ih => intro e; exact ih a.tt
    rw [this];show endL c.tt B'<=_;omega
 . rw [q3,w3,p3,eL,at_append]
   show ((((none:Option Att).or (atR A x)).or (r.pg x)).or (atR B x))=_
   unfold Rg.pg
   by_cases c:r.fr<=x/\x<r.tt
   . rw [if_pos c,if_pos c,at_high A 0 x s1 (by omega)];rfl
   . rw [if_neg c,if_neg c]
     cases atR A x <;> rfl
end Go.Proofs.YtlaiadheelgbdaaGreat.Re
namespace Go.Proofs.YtlaiadheelgbdaaGreat.Re
open Go.ChangeShapes Go.WideShapes Go.ChangeAt Go.RowKit Go.Maps
set_option linter.unusedSimpArgs false
set_option linter.unusedVariables false
set_option maxRecDepth 8000
end Go.Proofs.YtlaiadheelgbdaaGreat.Re
namespace Go.Proofs.YtlaiadheelgbdaaGreat.Re
open Go.ChangeShapes Go.WideShapes Go.ChangeAt Go.RowKit Go.Maps
set_option linter.unusedSimpArgs false
set_option linter.unusedVariables false
set_option maxRecDepth 8000
end Go.Proofs.YtlaiadheelgbdaaGreat.Re
namespace Go.Proofs.YtlaiadheelgbdaaGreat.Re
open Go.ChangeShapes Go.WideShapes Go.ChangeAt Go.RowKit Go.Maps
set_option linter.unusedSimpArgs false
set_option linter.unusedVariables false
set_option maxRecDepth 8000
def Ans (w':World) (base:Nat) (v:Value) (er:Int) (E:Int) (M:List Rg):Prop:=(E≠0/\er=E/\v=.slice none 0 0)\/(E=0/\Res w' base v er M)
end Go.Proofs.YtlaiadheelgbdaaGreat.Re
namespace Go.Proofs.YtlaiadheelgbdaaGreat.Re
open Go.ChangeShapes Go.WideShapes Go.ChangeAt Go.RowKit Go.Maps
set_option linter.unusedSimpArgs false
set_option linter.unusedVariables false
set_option maxRecDepth 8000
set_option maxHeartbeats 8000000 in
theorem add_any (base:Nat) (p:Option Addr) (c:Nat) (L:List Rg) (hL:L.length<=100) (hc:L.length<=c) (r:Rg) (w:World) (h:IsL w base p L) :
 Calls Tryz.prog 73 #[.slice p L.length c,r.val] w fun e w'=> ∃ v er,e=.returned (.tuple #[v,.int .i64 er])/\Ans w' w.heap.size v er (addN L r) (addL L r)/\Below w.heap.size w w':=by
 have HI:Hid (IsL w base p L):=h
 obtain ⟨r1,r2,r3,r4,r5,r6⟩:=r
 have CK:Hid (∀ W:World,IsL W base p L->Calls Tryz.prog 93 #[.slice p L.length c,rgV r1 r2] W fun e w'=>e=.returned (.int .i64 (checkN L r1 r2))/\Below W.heap.size W w'):=fun W h=>check_any base p c L hL r1 r2 W h
 have CNH:Hid (checkN L r1 r2=0-> ∀ W:World,IsL W base p L->Calls Tryz.prog 94 #[.slice p L.length c,rgV r1 r2] W fun e w'=>e=.returned (.int .i64 (cntR r1 r2 L))/\Below W.heap.size W w'):=fun q W h=>count_any base p c L hL (good_num (check_zero q).2) r1 r2 W h
 have WI:Hid (∀ (base:Nat) (v:Value) (M:List Rg),M.length<=1000-> ∀ (r:Rg) (W:World),base<=W.heap.size->OwnL W base v M->Calls Tryz.prog 95 #[v,r.val] W fun e w'=> ∃ v',e=.returned v'/\OwnL w' base v' (withL M r)/\WithK W w' v v'):=fun base v M hM r W hW ho=>with_any base v M hM r W hW ho
 have FY:Hid (∀ (q:Option Addr) (n d:Nat),n<=64-> ∀ W:World,Calls Tryz.prog 96 #[.slice q n d] W fun e w'=>e=.returned (.tuple #[.slice q n d,.int .i64 0])/\Below W.heap.size W w'):=fun q n d hn W=>few_yes q n d hn W
 have FN:Hid (∀ (q:Option Addr) (n d:Nat),64<n->n<=1000-> ∀ W:World,Calls Tryz.prog 96 #[.slice q n d] W fun e w'=>e=.returned (.tuple #[.slice none 0 0,.int .i64 4])/\Below W.heap.size W w'):=fun q n d hn hm W=>few_no q n d hn hm W
 have EP:Hid (addN L ⟨r1,r2,r3,r4,r5,r6⟩=if checkN L r1 r2=0 then (if 0<cntR r1 r2 L then 6 else 0) else checkN L r1 r2):=rfl
 obtain ⟨E,hE⟩: ∃ E,checkN L r1 r2=E:=⟨_,rfl⟩
 obtain ⟨N,hN⟩: ∃ N,cntR r1 r2 L=N:=⟨_,rfl⟩
 obtain ⟨EE,hEE⟩: ∃ x,addN L ⟨r1,r2,r3,r4,r5,r6⟩=x:=⟨_,rfl⟩
 obtain ⟨MM,hMM⟩: ∃ x,addL L ⟨r1,r2,r3,r4,r5,r6⟩=x:=⟨_,rfl⟩
 rw [hE] at CK EP CNH
 rw [hN] at EP CNH
 rw [hEE] at EP |-
 rw [hMM]
 have HM:Hid (addL L ⟨r1,r2,r3,r4,r5,r6⟩=MM):=hMM
 clear hE hN hEE hMM h
 by_cases cz:E=0
 rotate_left
 . have eb:(E==0)=false:=by simp [cz]
   have ee:EE=E:=by rw [EP.out,if_neg cz]
   subst ee
   have A1:Hid (∀ W:World,Ans W w.heap.size (.slice none 0 0) EE EE MM):=fun W=>Or.inl ⟨cz,rfl,rfl⟩
   clear cz EP CNH
   go_enter Tryz.func73,Tryz.ntmps73
   go_wp2_with fail
   refine (CK.out _ (HI.out.below (Go.Joins.below_alloc1 _ _))).mono ?_
   rintro e u1 ⟨rfl,hb1⟩
   have B1:Hid (Below w.heap.size w u1):=below_then (Go.Joins.below_alloc1 _ _) hb1
   clear hb1
   go_wp2_with fail
   go_returns
   exact ⟨.slice none 0 0,EE,rfl,A1.out _,B1.out⟩
 subst cz
 have CN:Hid _:=CNH.out rfl
 have EQ:Hid (EE=if 0<N then 6 else 0):=by
  have:=EP.out
  rw [if_pos rfl] at this;exact this
 clear CNH EP
 go_enter Tryz.func73,Tryz.ntmps73
 go_wp2_with fail
 refine (CK.out _ (HI.out.below (Go.Joins.below_alloc1 _ _))).mono ?_
 rintro e u1 ⟨rfl,hb1⟩
 have F1:Hid (u1.heap[w.heap.size]? =some (.cells #[.int .i64 r1,.int .i64 r2,.bool r3,.bool r4,.bool r5,.int .i64 r6] 117 (0,0))):=(hb1.block _ (by simp)).trans (own1 w _)
 have b0:u1.cell? ⟨w.heap.size,0,none⟩=some (.int .i64 r1):=Go.Joins.cell_of_block F1.out 0
 have b1:u1.cell? ⟨w.heap.size,1,none⟩=some (.int .i64 r2):=Go.Joins.cell_of_block F1.out 1
 have lw:w.heap.size<u1.heap.size:=blk_lt F1.out
 have B1:Hid (Below w.heap.size w u1):=below_then (Go.Joins.below_alloc1 _ _) hb1
 clear hb1
 go_wp2_with fail
 refine (CN.out _ (HI.out.below B1.out)).mono ?_
 rintro e u2 ⟨rfl,hb2⟩
 have F2:Hid (u2.heap[w.heap.size]? =some (.cells #[.int .i64 r1,.int .i64 r2,.bool r3,.bool r4,.bool r5,.int .i64 r6] 117 (0,0))):=(hb2.block _ lw).trans F1.out
 have B2:Hid (Below w.heap.size w u2):=below_then B1.out hb2
 clear hb2 b0 b1 lw F1 B1 CN CK
 by_cases cn:0<N
 . have e6:EE=6:=by rw [EQ.out,if_pos cn]
   subst e6
   have A1:Hid (∀ W:World,Ans W w.heap.size (.slice none 0 0) 6 6 MM):=fun W=>Or.inl ⟨by omega,rfl,rfl⟩
   have dn:decide (0<N)=true:=by simp [cn]
   go_wp2_with fail
   go_returns
   exact ⟨.slice none 0 0,6,rfl,A1.out _,B2.out⟩
 have e6:EE=0:=by rw [EQ.out,if_neg cn]
 subst e6
 have dn:decide (0<N)=false:=by simp;omega
 clear EQ cn
 have LO:Hid (LowL u2 u2.heap.size p L):=(HI.out.below B2.out).lowl (Nat.le_refl _)
 have lw2:w.heap.size<u2.heap.size:=blk_lt F2.out
 obtain ⟨b,hb⟩: ∃ b,u2.heap.size=b:=⟨_,rfl⟩
 rw [hb] at LO lw2
 have HB:Hid (u2.heap.size=b):=hb
 clear hb HI
 go_wp2_with fail
 go_loopw [7,8] (fun v x W=> ∃ k:Nat,k<=L.length/\x=.int .i64 k/\Hid (OwnL W b v (preL [] (L.take k)))/\Hid (Below b u2 W)/\Hid (∀ j,j<k->(L.getD j Rg.zero).tt<=r1)) (fun _ x _=>L.length-(intOf x).toNat)
 case atStart=>exact ⟨0,by omega,rfl,⟨by simp [preL],Or.inl ⟨rfl,rfl⟩⟩,Below.refl _ _,fun j hj=>absurd hj (Nat.not_lt_zero _)⟩
 case round =>
  obtain ⟨k,hk,rfl,hO,hW,hJ⟩:=hrel
  have lb:b<=wr.heap.size:=by have:=hW.out.size;rw [HB.out] at this;exact this
  have FW:Hid (wr.heap[w.heap.size]? =some (.cells #[.int .i64 r1,.int .i64 r2,.bool r3,.bool r4,.bool r5,.int .i64 r6] 117 (0,0))):=(hW.out.block _ lw2).trans F2.out
  have lww:w.heap.size<wr.heap.size:=blk_lt FW.out
  have x0:wr.cell? ⟨w.heap.size,0,none⟩=some (.int .i64 r1):=Go.Joins.cell_of_block FW.out 0
  have x1:wr.cell? ⟨w.heap.size,1,none⟩=some (.int .i64 r2):=Go.Joins.cell_of_block FW.out 1
  have x2:wr.cell? ⟨w.heap.size,2,none⟩=some (.bool r3):=Go.Joins.cell_of_block FW.out 2
  have x3:wr.cell? ⟨w.heap.size,3,none⟩=some (.bool r4):=Go.Joins.cell_of_block FW.out 3
  have x4:wr.cell? ⟨w.heap.size,4,none⟩=some (.bool r5):=Go.Joins.cell_of_block FW.out 4
  have x5:wr.cell? ⟨w.heap.size,5,none⟩=some (.int .i64 r6):=Go.Joins.cell_of_block FW.out 5
  by_cases hlk:k<L.length
  . obtain ⟨gl,ep,gl1,gc⟩:=(LO.out.low hW.out) k hlk
    subst ep
    have NX:Hid (preL [] (L.take (k+1))=withL (preL [] (L.take k)) (L.getD k Rg.zero)):=pre_next [] L k hlk
    have QE:Hid ((L.getD k Rg.zero).tt=(L.getD k Rg.zero).tt):=rfl
    obtain ⟨rr,hrr⟩: ∃ rr,L.getD k Rg.zero=rr:=⟨_,rfl⟩
    rw [hrr] at gc NX QE
    have HR:Hid (L.getD k Rg.zero=rr):=hrr
    clear hrr QE
    obtain ⟨q1,q2,q3,q4,q5,q6⟩:=rr
    have QE:Hid ((L.getD k Rg.zero).tt=q2):=by show _=_;rw [HR.out]
    have y0:wr.cell? ⟨gl,k*6,none⟩=some (.int .i64 q1):=gc 0 _ rfl
    have y1:wr.cell? ⟨gl,k*6+1,none⟩=some (.int .i64 q2):=gc 1 _ rfl
    have y2:wr.cell? ⟨gl,k*6+2,none⟩=some (.bool q3):=gc 2 _ rfl
    have y3:wr.cell? ⟨gl,k*6+3,none⟩=some (.bool q4):=gc 3 _ rfl
    have y4:wr.cell? ⟨gl,k*6+4,none⟩=some (.bool q5):=gc 4 _ rfl
    have y5:wr.cell? ⟨gl,k*6+5,none⟩=some (.int .i64 q6):=gc 5 _ rfl
    clear gc
    have glw:gl<wr.heap.size:=by omega
    by_cases cq:q2<=r1
    . have PL:Hid ((preL [] (L.take k)).length<=100):=by have:=pre_len [] L k hk;simp at this;exact Nat.le_trans this (by omega)
      go_wp2_with fail
      refine wp_region_noPanic ?_
      refine wp_region_held_drew (S:=fun c=>c.cell? ⟨w.heap.size,0,none⟩=some (.int .i64 r1)/\c.cell? ⟨gl,k*6+1,none⟩=some (.int .i64 q2)) (by kernel_rfl) ?_ (fun hHeld=> ?_)
      . exact ⟨x0,y1⟩
      refine tk 0 23 ?_ rfl (Or.inl ⟨by rfl,?_⟩) ?_
      rotate_left
      . intro w hSw;(try dsimp only at hSw);go_simp;(try with_reducible rfl)
      try simp only [Act.put,List.setIfInBounds_toArray,List.set_cons_zero,List.set_cons_succ]
      refine tk 1 24 ?_ rfl (Or.inl ⟨by rfl,?_⟩) ?_
      rotate_left
      . intro w hSw;(try dsimp only at hSw);go_simp;(try with_reducible rfl)
      try simp only [Act.put,List.setIfInBounds_toArray,List.set_cons_zero,List.set_cons_succ]
      refine tk 2 25 ?_ rfl (Or.inl ⟨by rfl,?_⟩) ?_
      rotate_left
      . intro w hSw;(try dsimp only at hSw);go_simp;(try with_reducible rfl)
      try simp only [Act.put,List.setIfInBounds_toArray,List.set_cons_zero,List.set_cons_succ]
      refine tk 3 26 (.bool true) rfl (Or.inl ⟨by rfl,?_⟩) ?_
      . intro w hSw;(try dsimp only at hSw);go_simp;(try simp);(try omega)
      try simp only [Act.put,List.setIfInBounds_toArray,List.set_cons_zero,List.set_cons_succ]
      refine tk 4 27 ?_ rfl (Or.inl ⟨by rfl,?_⟩) ?_
      rotate_left
      . intro w hSw;(try dsimp only at hSw);go_simp;(try with_reducible rfl)
      try simp only [Act.put,List.setIfInBounds_toArray,List.set_cons_zero,List.set_cons_succ]
      refine wpAnyH_take (i:=5) (oi:=⟨some 28,_,_,_,_,some (4,true)⟩) (v:= ?_) rfl (by kernel_rfl) (by kernel_rfl) (by kernel_rfl) (fun _ _ _ h=>h) (Or.inl ⟨by rfl,?_⟩) (by assumption) ?_
      rotate_left
      . intro w hSw;(try dsimp only at hSw);go_simp;(try with_reducible rfl)
      try simp only [Act.put,List.setIfInBounds_toArray,List.set_cons_zero,List.set_cons_succ]
      refine wpAnyH_take (i:=6) (oi:=⟨some 29,_,_,_,_,some (4,true)⟩) (v:= ?_) rfl (by kernel_rfl) (by kernel_rfl) (by kernel_rfl) (fun _ _ _ h=>h) (Or.inl ⟨by rfl,?_⟩) (by assumption) ?_
      rotate_left
      . intro w hSw;(try dsimp only at hSw);go_simp;(try with_reducible rfl)
      try simp only [Act.put,List.setIfInBounds_toArray,List.set_cons_zero,List.set_cons_succ]
      refine wpAnyH_take (i:=7) (oi:=⟨some 30,_,_,_,_,some (4,true)⟩) (v:=(.pointer (some ⟨gl,k*6,none⟩))) rfl (by kernel_rfl) (by kernel_rfl) (by kernel_rfl) (fun _ _ _ h=>h) (Or.inl ⟨by rfl,?_⟩) (by assumption) ?_
      . intro w hSw;(try dsimp only at hSw);go_simp;(try simp [hlk]);(try omega)
      try simp only [Act.put,List.setIfInBounds_toArray,List.set_cons_zero,List.set_cons_succ]
      refine wpAnyH_take (i:=8) (oi:=⟨some 31,_,_,_,_,some (4,true)⟩) (v:= ?_) rfl (by kernel_rfl) (by kernel_rfl) (by kernel_rfl) (fun _ _ _ h=>h) (Or.inl ⟨by rfl,?_⟩) (by assumption) ?_
      rotate_left
      . intro w hSw;(try dsimp only at hSw);go_simp;(try with_reducible rfl)
      try simp only [Act.put,List.setIfInBounds_toArray,List.set_cons_zero,List.set_cons_succ]
      refine wpAnyH_take (i:=9) (oi:=⟨some 32,_,_,_,_,some (4,true)⟩) (v:= ?_) rfl (by kernel_rfl) (by kernel_rfl) (by kernel_rfl) (fun _ _ _ h=>h) (Or.inl ⟨by rfl,?_⟩) (by assumption) ?_
      rotate_left
      . intro w hSw;(try dsimp only at hSw);go_simp;(try with_reducible rfl)
      try simp only [Act.put,List.setIfInBounds_toArray,List.set_cons_zero,List.set_cons_succ]
      refine wpAnyH_take (i:=10) (oi:=⟨some 33,_,_,_,_,some (4,true)⟩) (v:=.int .i64 q2) rfl (by kernel_rfl) (by kernel_rfl) (by kernel_rfl) (fun _ _ _ h=>h) (Or.inl ⟨by rfl,?_⟩) (by assumption) ?_
      . intro w hSw;(try dsimp only at hSw);go_simp;(try simp [hSw])
      try simp only [Act.put,List.setIfInBounds_toArray,List.set_cons_zero,List.set_cons_succ]
      refine wpAnyH_take (i:=11) (oi:=⟨some 34,_,_,_,_,some (4,true)⟩) (v:= ?_) rfl (by kernel_rfl) (by kernel_rfl) (by kernel_rfl) (fun _ _ _ h=>h) (Or.inl ⟨by rfl,?_⟩) (by assumption) ?_
      rotate_left
      . intro w hSw;(try dsimp only at hSw);go_simp;(try with_reducible rfl)
      try simp only [Act.put,List.setIfInBounds_toArray,List.set_cons_zero,List.set_cons_succ]
      refine wpAnyH_take (i:=12) (oi:=⟨some 35,_,_,_,_,some (4,true)⟩) (v:= ?_) rfl (by kernel_rfl) (by kernel_rfl) (by kernel_rfl) (fun _ _ _ h=>h) (Or.inl ⟨by rfl,?_⟩) (by assumption) ?_
      rotate_left
      . intro w hSw;(try dsimp only at hSw);go_simp;(try with_reducible rfl)
      try simp only [Act.put,List.setIfInBounds_toArray,List.set_cons_zero,List.set_cons_succ]
      refine wpAnyH_take (i:=13) (oi:=⟨some 36,_,_,_,_,some (4,true)⟩) (v:=.int .i64 r1) rfl (by kernel_rfl) (by kernel_rfl) (by kernel_rfl) (fun _ _ _ h=>h) (Or.inl ⟨by rfl,?_⟩) (by assumption) ?_
      . intro w hSw;(try dsimp only at hSw);go_simp;(try simp [hSw])
      try simp only [Act.put,List.setIfInBounds_toArray,List.set_cons_zero,List.set_cons_succ]
      refine wpAnyH_take (i:=14) (oi:=⟨some 37,_,_,_,_,some (4,true)⟩) (v:=.bool true) rfl (by kernel_rfl) (by kernel_rfl) (by kernel_rfl) (fun _ _ _ h=>h) (Or.inl ⟨by rfl,?_⟩) (by assumption) ?_
      . intro w hSw;(try dsimp only at hSw);go_simp;(try simp);(try omega)
      try simp only [Act.put,List.setIfInBounds_toArray,List.set_cons_zero,List.set_cons_succ]
      refine tk 15 38 ?_ rfl (Or.inl ⟨by rfl,?_⟩) ?_
      rotate_left
      . intro w hSw;(try dsimp only at hSw);go_simp;(try with_reducible rfl)
      try simp only [Act.put,List.setIfInBounds_toArray,List.set_cons_zero,List.set_cons_succ]
      clear hHeld
      refine wpAnyH_done (by kernel_rfl) ?_ _
      refine NoPanic.normal ?_
      have OV:Hid (OwnL wr.drew b u7 (preL [] (L.take k))):=OwnL.below hO.out (below_drew (Below.refl _ _))
      have BV:Hid (Below b u2 wr.drew):=below_drew hW.out
      have FV:Hid (wr.drew.heap[w.heap.size]? =some (.cells #[.int .i64 r1,.int .i64 r2,.bool r3,.bool r4,.bool r5,.int .i64 r6] 117 (0,0))):=FW.out
      have lV:b<=wr.drew.heap.size:=lb
      have z0:wr.drew.cell? ⟨gl,k*6,none⟩=some (.int .i64 q1):=y0
      have z1:wr.drew.cell? ⟨gl,k*6+1,none⟩=some (.int .i64 q2):=y1
      have z2:wr.drew.cell? ⟨gl,k*6+2,none⟩=some (.bool q3):=y2
      have z3:wr.drew.cell? ⟨gl,k*6+3,none⟩=some (.bool q4):=y3
      have z4:wr.drew.cell? ⟨gl,k*6+4,none⟩=some (.bool q5):=y4
      have z5:wr.drew.cell? ⟨gl,k*6+5,none⟩=some (.int .i64 q6):=y5
      clear x0 x1 x2 x3 x4 x5 y0 y1 y2 y3 y4 y5 hO hW FW lww lb
      generalize wr.drew=V at OV BV FV lV z0 z1 z2 z3 z4 z5 |-
      have glv:gl<V.heap.size:=by omega
      go_wp2_with fail
      refine (WI.out b u7 _ (Nat.le_trans PL.out (by omega)) ⟨q1,q2,q3,q4,q5,q6⟩ _ lV OV.out).mono ?_
      rintro e u3 ⟨v1,rfl,ho,hk1⟩
      have O3:Hid (OwnL u3 b v1 (preL [] (L.take (k+1)))):=by show OwnL _ _ _ _;rw [NX.out];exact ho
      have B3:Hid (Below b u2 u3):=BV.out.trans (hk1.below OV.out lV)
      have J3:Hid (∀ j,j<k+1->(L.getD j Rg.zero).tt<=r1):=fun j hj=>by
       by_cases c:j=k
       . subst c;rw [QE.out];exact cq
       . exact hJ.out j (by omega)
      clear ho hk1
      go_wp2_with fail
      go_roundw
      case rel=>exact ⟨k+1,by omega,by go_num,O3,B3,J3⟩
      case measure=>simp [intOf];omega
    . replace cq:r1<q2:=by omega
      go_wp2_with fail
      refine wp_region_noPanic ?_
      refine wp_region_held_drew (S:=fun c=>c.cell? ⟨w.heap.size,0,none⟩=some (.int .i64 r1)/\c.cell? ⟨gl,k*6+1,none⟩=some (.int .i64 q2)) (by kernel_rfl) ?_ (fun hHeld=> ?_)
      . exact ⟨x0,y1⟩
      refine tk 0 23 ?_ rfl (Or.inl ⟨by rfl,?_⟩) ?_
      rotate_left
      . intro w hSw;(try dsimp only at hSw);go_simp;(try with_reducible rfl)
      try simp only [Act.put,List.setIfInBounds_toArray,List.set_cons_zero,List.set_cons_succ]
      refine tk 1 24 ?_ rfl (Or.inl ⟨by rfl,?_⟩) ?_
      rotate_left
      . intro w hSw;(try dsimp only at hSw);go_simp;(try with_reducible rfl)
      try simp only [Act.put,List.setIfInBounds_toArray,List.set_cons_zero,List.set_cons_succ]
      refine tk 2 25 ?_ rfl (Or.inl ⟨by rfl,?_⟩) ?_
      rotate_left
      . intro w hSw;(try dsimp only at hSw);go_simp;(try with_reducible rfl)
      try simp only [Act.put,List.setIfInBounds_toArray,List.set_cons_zero,List.set_cons_succ]
      refine tk 3 26 (.bool true) rfl (Or.inl ⟨by rfl,?_⟩) ?_
      . intro w hSw;(try dsimp only at hSw);go_simp;(try simp);(try omega)
      try simp only [Act.put,List.setIfInBounds_toArray,List.set_cons_zero,List.set_cons_succ]
      refine tk 4 27 ?_ rfl (Or.inl ⟨by rfl,?_⟩) ?_
      rotate_left
      . intro w hSw;(try dsimp only at hSw);go_simp;(try with_reducible rfl)
      try simp only [Act.put,List.setIfInBounds_toArray,List.set_cons_zero,List.set_cons_succ]
      refine wpAnyH_take (i:=5) (oi:=⟨some 28,_,_,_,_,some (4,true)⟩) (v:= ?_) rfl (by kernel_rfl) (by kernel_rfl) (by kernel_rfl) (fun _ _ _ h=>h) (Or.inl ⟨by rfl,?_⟩) (by assumption) ?_
      rotate_left
      . intro w hSw;(try dsimp only at hSw);go_simp;(try with_reducible rfl)
      try simp only [Act.put,List.setIfInBounds_toArray,List.set_cons_zero,List.set_cons_succ]
      refine wpAnyH_take (i:=6) (oi:=⟨some 29,_,_,_,_,some (4,true)⟩) (v:= ?_) rfl (by kernel_rfl) (by kernel_rfl) (by kernel_rfl) (fun _ _ _ h=>h) (Or.inl ⟨by rfl,?_⟩) (by assumption) ?_
      rotate_left
      . intro w hSw;(try dsimp only at hSw);go_simp;(try with_reducible rfl)
      try simp only [Act.put,List.setIfInBounds_toArray,List.set_cons_zero,List.set_cons_succ]
      refine wpAnyH_take (i:=7) (oi:=⟨some 30,_,_,_,_,some (4,true)⟩) (v:=(.pointer (some ⟨gl,k*6,none⟩))) rfl (by kernel_rfl) (by kernel_rfl) (by kernel_rfl) (fun _ _ _ h=>h) (Or.inl ⟨by rfl,?_⟩) (by assumption) ?_
      . intro w hSw;(try dsimp only at hSw);go_simp;(try simp [hlk]);(try omega)
      try simp only [Act.put,List.setIfInBounds_toArray,List.set_cons_zero,List.set_cons_succ]
      refine wpAnyH_take (i:=8) (oi:=⟨some 31,_,_,_,_,some (4,true)⟩) (v:= ?_) rfl (by kernel_rfl) (by kernel_rfl) (by kernel_rfl) (fun _ _ _ h=>h) (Or.inl ⟨by rfl,?_⟩) (by assumption) ?_
      rotate_left
      . intro w hSw;(try dsimp only at hSw);go_simp;(try with_reducible rfl)
      try simp only [Act.put,List.setIfInBounds_toArray,List.set_cons_zero,List.set_cons_succ]
      refine wpAnyH_take (i:=9) (oi:=⟨some 32,_,_,_,_,some (4,true)⟩) (v:= ?_) rfl (by kernel_rfl) (by kernel_rfl) (by kernel_rfl) (fun _ _ _ h=>h) (Or.inl ⟨by rfl,?_⟩) (by assumption) ?_
      rotate_left
      . intro w hSw;(try dsimp only at hSw);go_simp;(try with_reducible rfl)
      try simp only [Act.put,List.setIfInBounds_toArray,List.set_cons_zero,List.set_cons_succ]
      refine wpAnyH_take (i:=10) (oi:=⟨some 33,_,_,_,_,some (4,true)⟩) (v:=.int .i64 q2) rfl (by kernel_rfl) (by kernel_rfl) (by kernel_rfl) (fun _ _ _ h=>h) (Or.inl ⟨by rfl,?_⟩) (by assumption) ?_
      . intro w hSw;(try dsimp only at hSw);go_simp;(try simp [hSw])
      try simp only [Act.put,List.setIfInBounds_toArray,List.set_cons_zero,List.set_cons_succ]
      refine wpAnyH_take (i:=11) (oi:=⟨some 34,_,_,_,_,some (4,true)⟩) (v:= ?_) rfl (by kernel_rfl) (by kernel_rfl) (by kernel_rfl) (fun _ _ _ h=>h) (Or.inl ⟨by rfl,?_⟩) (by assumption) ?_
      rotate_left
      . intro w hSw;(try dsimp only at hSw);go_simp;(try with_reducible rfl)
      try simp only [Act.put,List.setIfInBounds_toArray,List.set_cons_zero,List.set_cons_succ]
      refine wpAnyH_take (i:=12) (oi:=⟨some 35,_,_,_,_,some (4,true)⟩) (v:= ?_) rfl (by kernel_rfl) (by kernel_rfl) (by kernel_rfl) (fun _ _ _ h=>h) (Or.inl ⟨by rfl,?_⟩) (by assumption) ?_
      rotate_left
      . intro w hSw;(try dsimp only at hSw);go_simp;(try with_reducible rfl)
      try simp only [Act.put,List.setIfInBounds_toArray,List.set_cons_zero,List.set_cons_succ]
      refine wpAnyH_take (i:=13) (oi:=⟨some 36,_,_,_,_,some (4,true)⟩) (v:=.int .i64 r1) rfl (by kernel_rfl) (by kernel_rfl) (by kernel_rfl) (fun _ _ _ h=>h) (Or.inl ⟨by rfl,?_⟩) (by assumption) ?_
      . intro w hSw;(try dsimp only at hSw);go_simp;(try simp [hSw])
      try simp only [Act.put,List.setIfInBounds_toArray,List.set_cons_zero,List.set_cons_succ]
      refine wpAnyH_take (i:=14) (oi:=⟨some 37,_,_,_,_,some (4,true)⟩) (v:=.bool false) rfl (by kernel_rfl) (by kernel_rfl) (by kernel_rfl) (fun _ _ _ h=>h) (Or.inl ⟨by rfl,?_⟩) (by assumption) ?_
      . intro w hSw;(try dsimp only at hSw);go_simp;(try simp);(try omega)
      try simp only [Act.put,List.setIfInBounds_toArray,List.set_cons_zero,List.set_cons_succ]
      refine tk 15 38 ?_ rfl (Or.inl ⟨by rfl,?_⟩) ?_
      rotate_left
      . intro w hSw;(try dsimp only at hSw);go_simp;(try with_reducible rfl)
      try simp only [Act.put,List.setIfInBounds_toArray,List.set_cons_zero,List.set_cons_succ]
      clear hHeld
      refine wpAnyH_done (by kernel_rfl) ?_ _
      refine NoPanic.normal ?_
      have OV:Hid (OwnL wr.drew b u7 (preL [] (L.take k))):=OwnL.below hO.out (below_drew (Below.refl _ _))
      have BV:Hid (Below b u2 wr.drew):=below_drew hW.out
      have FV:Hid (wr.drew.heap[w.heap.size]? =some (.cells #[.int .i64 r1,.int .i64 r2,.bool r3,.bool r4,.bool r5,.int .i64 r6] 117 (0,0))):=FW.out
      have lV:b<=wr.drew.heap.size:=lb
      clear x0 x1 x2 x3 x4 x5 y0 y1 y2 y3 y4 y5 hO hW FW lww lb
      generalize wr.drew=V at OV BV FV lV |-
      have AN:aheadN L r1=k:=ahead_is r1 L k hk hJ.out (Or.inr (by rw [QE.out];exact cq))
      have EM:Hid (MM=preL (withL (preL [] (L.take k)) ⟨r1,r2,r3,r4,r5,r6⟩) (L.drop k)):=by show _=_;rw [<- HM.out];unfold addL;simp only;rw [AN]
      have PL:Hid ((preL [] (L.take k)).length<=100):=by have:=pre_len [] L k hk;simp at this;exact Nat.le_trans this (by omega)
      clear AN hJ HM
      have x0:V.cell? ⟨w.heap.size,0,none⟩=some (.int .i64 r1):=Go.Joins.cell_of_block FV.out 0
      have x1:V.cell? ⟨w.heap.size,1,none⟩=some (.int .i64 r2):=Go.Joins.cell_of_block FV.out 1
      have x2:V.cell? ⟨w.heap.size,2,none⟩=some (.bool r3):=Go.Joins.cell_of_block FV.out 2
      have x3:V.cell? ⟨w.heap.size,3,none⟩=some (.bool r4):=Go.Joins.cell_of_block FV.out 3
      have x4:V.cell? ⟨w.heap.size,4,none⟩=some (.bool r5):=Go.Joins.cell_of_block FV.out 4
      have x5:V.cell? ⟨w.heap.size,5,none⟩=some (.int .i64 r6):=Go.Joins.cell_of_block FV.out 5
      have lv:w.heap.size<V.heap.size:=blk_lt FV.out
      generalize preL [] (L.take k)=P at OV EM PL
      go_wp2_with fail
      refine (WI.out b u7 P (Nat.le_trans PL.out (by omega)) ⟨r1,r2,r3,r4,r5,r6⟩ _ lV OV.out).mono ?_
      rintro e u3 ⟨v1,rfl,ho,hk1⟩
      have O3:Hid (OwnL u3 b v1 (withL P ⟨r1,r2,r3,r4,r5,r6⟩)):=ho
      have B3:Hid (Below b u2 u3):=BV.out.trans (hk1.below OV.out lV)
      have LQ:Hid ((withL P ⟨r1,r2,r3,r4,r5,r6⟩).length<=101):=by have:=withL_len P ⟨r1,r2,r3,r4,r5,r6⟩;have:=PL.out;show _<=_;omega
      generalize withL P ⟨r1,r2,r3,r4,r5,r6⟩=Q at O3 EM LQ
      clear ho hk1 x0 x1 x2 x3 x4 x5 lv OV BV FV lV PL
      go_wp2_with fail
      generalize hdd:L.length-k=dd
      go_loopw [7,54] (fun v x W=> ∃ j:Nat,j<=dd/\x=.int .i64 j/\Hid (OwnL W b v (preL Q ((L.drop k).take j)))/\Hid (Below b u2 W)) (fun _ x _=>dd-(intOf x).toNat)
      case atStart=>exact ⟨0,by omega,rfl,O3,B3⟩
      case round =>
       obtain ⟨j,hj,rfl,hO4,hW4⟩:=hrel
       have dl:(L.drop k).length=dd:=by rw [List.length_drop];exact hdd
       have PL4:Hid ((preL Q ((L.drop k).take j)).length<=201):=by have h1:=pre_len Q (L.drop k) j (by omega);have h2:=LQ.out;show _<=_;omega
       have lb4:b<=wr.heap.size:=by have:=hW4.out.size;rw [HB.out] at this;exact this
       by_cases hlj:j<dd
       . have hdj:decide ((j:Int)<(dd:Int))=true:=by simp;omega
         obtain ⟨g',ge,gl2,gc⟩:=(LO.out.low hW4.out) (k+j) (by omega)
         obtain rfl:g'=gl:=by cases ge;rfl
         have NX4:Hid (preL Q ((L.drop k).take (j+1))=withL (preL Q ((L.drop k).take j)) (L.getD (k+j) Rg.zero)):=by
          show _=_
          rw [pre_next Q (L.drop k) j (by omega)]
          congr 1
          simp [List.getD,List.getElem?_drop]
         generalize L.getD (k+j) Rg.zero=rr at gc NX4
         obtain ⟨s1,s2,s3,s4,s5,s6⟩:=rr
         have t0:wr.cell? ⟨g',k*6+j*6,none⟩=some (.int .i64 s1):=by have:=gc 0 _ rfl;rw [show (k+j)*6+0=k*6+j*6 by omega] at this;exact this
         have t1:wr.cell? ⟨g',k*6+j*6+1,none⟩=some (.int .i64 s2):=by have:=gc 1 _ rfl;rw [show (k+j)*6+1=k*6+j*6+1 by omega] at this;exact this
         have t2:wr.cell? ⟨g',k*6+j*6+2,none⟩=some (.bool s3):=by have:=gc 2 _ rfl;rw [show (k+j)*6+2=k*6+j*6+2 by omega] at this;exact this
         have t3:wr.cell? ⟨g',k*6+j*6+3,none⟩=some (.bool s4):=by have:=gc 3 _ rfl;rw [show (k+j)*6+3=k*6+j*6+3 by omega] at this;exact this
         have t4:wr.cell? ⟨g',k*6+j*6+4,none⟩=some (.bool s5):=by have:=gc 4 _ rfl;rw [show (k+j)*6+4=k*6+j*6+4 by omega] at this;exact this
         have t5:wr.cell? ⟨g',k*6+j*6+5,none⟩=some (.int .i64 s6):=by have:=gc 5 _ rfl;rw [show (k+j)*6+5=k*6+j*6+5 by omega] at this;exact this
         clear gc ge
         have glw4:g'<wr.heap.size:=by omega
         have O5:Hid (OwnL (wr.alloc (.cells #[.int .i64 s1,.int .i64 s2,.bool s3,.bool s4,.bool s5,.int .i64 s6] 117)) b u7 (preL Q ((L.drop k).take j))):=OwnL.below hO4.out (Go.Joins.below_alloc1 _ _)
         have B5:Hid (Below b u2 (wr.alloc (.cells #[.int .i64 s1,.int .i64 s2,.bool s3,.bool s4,.bool s5,.int .i64 s6] 117))):=hW4.out.trans (Go.Joins.below_le (Go.Joins.below_alloc1 _ _) lb4)
         have lb5:b<=(wr.alloc (.cells #[.int .i64 s1,.int .i64 s2,.bool s3,.bool s4,.bool s5,.int .i64 s6] 117)).heap.size:=by rw [World.size_alloc];omega
         go_wp2_with fail
         refine (WI.out b u7 _ (Nat.le_trans PL4.out (by omega)) ⟨s1,s2,s3,s4,s5,s6⟩ _ lb5 O5.out).mono ?_
         rintro e u6 ⟨v2,rfl,ho,hk2⟩
         have O6:Hid (OwnL u6 b v2 (preL Q ((L.drop k).take (j+1)))):=by show OwnL _ _ _ _;rw [NX4.out];exact ho
         have B6:Hid (Below b u2 u6):=B5.out.trans (hk2.below O5.out lb5)
         clear ho hk2
         go_wp2_with fail
         go_roundw
         case rel=>exact ⟨j+1,by omega,by go_num,O6,B6⟩
         case measure=>simp [intOf];omega
       . obtain rfl:j=dd:=by omega
         have EF:Hid (MM=preL Q ((L.drop k).take j)):=by show _=_;rw [EM.out,<- dl,List.take_length]
         clear EM
         generalize preL Q ((L.drop k).take j)=QQ at hO4 EF PL4
         obtain ⟨q,d,ev,hq⟩:=own_read hO4.out
         clear hq
         obtain ⟨n,hn⟩: ∃ n,QQ.length=n:=⟨_,rfl⟩
         have HN:Hid (QQ.length=n):=hn
         rw [hn] at ev PL4
         clear hn
         subst ev
         by_cases few:n<=64
         . go_wp2_with fail
           refine (FY.out _ _ _ few _).mono ?_
           rintro e u9 ⟨rfl,hb9⟩
           have B9:Hid (Below w.heap.size w u9):=below_then (B2.out.trans (Go.Joins.below_le hW4.out (by omega))) hb9
           have R9:Hid (Ans u9 w.heap.size (.slice q n d) 0 0 MM):=Or.inr ⟨rfl,Or.inl ⟨by rw [EF.out,HN.out];exact few,rfl,by rw [EF.out];exact Go.Joins.ownsRow_le (OwnL.below hO4.out hb9) (by omega)⟩⟩
           clear hb9
           go_wp2_with fail
           go_returns
           exact ⟨.slice q n d,0,rfl,R9.out,B9.out⟩
         . go_wp2_with fail
           refine (FN.out _ _ _ (by omega) (Nat.le_trans PL4.out (by omega)) _).mono ?_
           rintro e u9 ⟨rfl,hb9⟩
           have B9:Hid (Below w.heap.size w u9):=below_then (B2.out.trans (Go.Joins.below_le hW4.out (by omega))) hb9
           have R9:Hid (Ans u9 w.heap.size (.slice none 0 0) 4 0 MM):=Or.inr ⟨rfl,Or.inr ⟨by rw [EF.out,HN.out];omega,rfl,rfl⟩⟩
           clear hb9
           go_wp2_with fail
           go_returns
           exact ⟨.slice none 0 0,4,rfl,R9.out,B9.out⟩
  . have hkn:k=L.length:=by omega
    go_wp2_with fail
    refine wp_region_noPanic ?_
    refine wp_region_held_drew (S:=fun c=>c.cell? ⟨w.heap.size,0,none⟩=some (.int .i64 r1)) (by kernel_rfl) ?_ (fun hHeld=> ?_)
    . exact x0
    refine tk 0 23 ?_ rfl (Or.inl ⟨by rfl,?_⟩) ?_
    rotate_left
    . intro w hSw;(try dsimp only at hSw);go_simp;(try with_reducible rfl)
    try simp only [Act.put,List.setIfInBounds_toArray,List.set_cons_zero,List.set_cons_succ]
    refine tk 1 24 ?_ rfl (Or.inl ⟨by rfl,?_⟩) ?_
    rotate_left
    . intro w hSw;(try dsimp only at hSw);go_simp;(try with_reducible rfl)
    try simp only [Act.put,List.setIfInBounds_toArray,List.set_cons_zero,List.set_cons_succ]
    refine tk 2 25 ?_ rfl (Or.inl ⟨by rfl,?_⟩) ?_
    rotate_left
    . intro w hSw;(try dsimp only at hSw);go_simp;(try with_reducible rfl)
    try simp only [Act.put,List.setIfInBounds_toArray,List.set_cons_zero,List.set_cons_succ]
    refine tk 3 26 (.bool false) rfl (Or.inl ⟨by rfl,?_⟩) ?_
    . intro w hSw;(try dsimp only at hSw);go_simp;(try simp);(try omega)
    try simp only [Act.put,List.setIfInBounds_toArray,List.set_cons_zero,List.set_cons_succ]
    refine tk 4 27 ?_ rfl (Or.inl ⟨by rfl,?_⟩) ?_
    rotate_left
    . intro w hSw;(try dsimp only at hSw);go_simp;(try with_reducible rfl)
    try simp only [Act.put,List.setIfInBounds_toArray,List.set_cons_zero,List.set_cons_succ]
    refine wpAnyH_take (i:=5) (oi:=⟨some 28,_,_,_,_,some (4,true)⟩) (v:=undef) rfl (by kernel_rfl) (by kernel_rfl) (by kernel_rfl) (fun _ _ _ h=>h) (Or.inr ⟨by rfl,rfl⟩) (by assumption) ?_
    try simp only [Act.put,List.setIfInBounds_toArray,List.set_cons_zero,List.set_cons_succ]
    refine wpAnyH_take (i:=6) (oi:=⟨some 29,_,_,_,_,some (4,true)⟩) (v:=undef) rfl (by kernel_rfl) (by kernel_rfl) (by kernel_rfl) (fun _ _ _ h=>h) (Or.inr ⟨by rfl,rfl⟩) (by assumption) ?_
    try simp only [Act.put,List.setIfInBounds_toArray,List.set_cons_zero,List.set_cons_succ]
    refine wpAnyH_take (i:=7) (oi:=⟨some 30,_,_,_,_,some (4,true)⟩) (v:=undef) rfl (by kernel_rfl) (by kernel_rfl) (by kernel_rfl) (fun _ _ _ h=>h) (Or.inr ⟨by rfl,rfl⟩) (by assumption) ?_
    try simp only [Act.put,List.setIfInBounds_toArray,List.set_cons_zero,List.set_cons_succ]
    refine wpAnyH_take (i:=8) (oi:=⟨some 31,_,_,_,_,some (4,true)⟩) (v:=undef) rfl (by kernel_rfl) (by kernel_rfl) (by kernel_rfl) (fun _ _ _ h=>h) (Or.inr ⟨by rfl,rfl⟩) (by assumption) ?_
    try simp only [Act.put,List.setIfInBounds_toArray,List.set_cons_zero,List.set_cons_succ]
    refine wpAnyH_take (i:=9) (oi:=⟨some 32,_,_,_,_,some (4,true)⟩) (v:=undef) rfl (by kernel_rfl) (by kernel_rfl) (by kernel_rfl) (fun _ _ _ h=>h) (Or.inr ⟨by rfl,rfl⟩) (by assumption) ?_
    try simp only [Act.put,List.setIfInBounds_toArray,List.set_cons_zero,List.set_cons_succ]
    refine wpAnyH_take (i:=10) (oi:=⟨some 33,_,_,_,_,some (4,true)⟩) (v:=undef) rfl (by kernel_rfl) (by kernel_rfl) (by kernel_rfl) (fun _ _ _ h=>h) (Or.inr ⟨by rfl,rfl⟩) (by assumption) ?_
    try simp only [Act.put,List.setIfInBounds_toArray,List.set_cons_zero,List.set_cons_succ]
    refine wpAnyH_take (i:=11) (oi:=⟨some 34,_,_,_,_,some (4,true)⟩) (v:=undef) rfl (by kernel_rfl) (by kernel_rfl) (by kernel_rfl) (fun _ _ _ h=>h) (Or.inr ⟨by rfl,rfl⟩) (by assumption) ?_
    try simp only [Act.put,List.setIfInBounds_toArray,List.set_cons_zero,List.set_cons_succ]
    refine wpAnyH_take (i:=12) (oi:=⟨some 35,_,_,_,_,some (4,true)⟩) (v:=undef) rfl (by kernel_rfl) (by kernel_rfl) (by kernel_rfl) (fun _ _ _ h=>h) (Or.inr ⟨by rfl,rfl⟩) (by assumption) ?_
    try simp only [Act.put,List.setIfInBounds_toArray,List.set_cons_zero,List.set_cons_succ]
    refine wpAnyH_take (i:=13) (oi:=⟨some 36,_,_,_,_,some (4,true)⟩) (v:=undef) rfl (by kernel_rfl) (by kernel_rfl) (by kernel_rfl) (fun _ _ _ h=>h) (Or.inr ⟨by rfl,rfl⟩) (by assumption) ?_
    try simp only [Act.put,List.setIfInBounds_toArray,List.set_cons_zero,List.set_cons_succ]
    refine wpAnyH_take (i:=14) (oi:=⟨some 37,_,_,_,_,some (4,true)⟩) (v:=undef) rfl (by kernel_rfl) (by kernel_rfl) (by kernel_rfl) (fun _ _ _ h=>h) (Or.inr ⟨by rfl,rfl⟩) (by assumption) ?_
    try simp only [Act.put,List.setIfInBounds_toArray,List.set_cons_zero,List.set_cons_succ]
    refine tk 15 38 ?_ rfl (Or.inl ⟨by rfl,?_⟩) ?_
    rotate_left
    . intro w hSw;(try dsimp only at hSw);go_simp;(try with_reducible rfl)
    try simp only [Act.put,List.setIfInBounds_toArray,List.set_cons_zero,List.set_cons_succ]
    clear hHeld
    refine wpAnyH_done (by kernel_rfl) ?_ _
    refine NoPanic.normal ?_
    have OV:Hid (OwnL wr.drew b u7 (preL [] (L.take k))):=OwnL.below hO.out (below_drew (Below.refl _ _))
    have BV:Hid (Below b u2 wr.drew):=below_drew hW.out
    have FV:Hid (wr.drew.heap[w.heap.size]? =some (.cells #[.int .i64 r1,.int .i64 r2,.bool r3,.bool r4,.bool r5,.int .i64 r6] 117 (0,0))):=FW.out
    have lV:b<=wr.drew.heap.size:=lb
    clear x0 x1 x2 x3 x4 x5  hO hW FW lww lb
    generalize wr.drew=V at OV BV FV lV |-
    have AN:aheadN L r1=k:=ahead_is r1 L k hk hJ.out (Or.inl hkn)
    have EM:Hid (MM=preL (withL (preL [] (L.take k)) ⟨r1,r2,r3,r4,r5,r6⟩) (L.drop k)):=by show _=_;rw [<- HM.out];unfold addL;simp only;rw [AN]
    have PL:Hid ((preL [] (L.take k)).length<=100):=by have:=pre_len [] L k hk;simp at this;exact Nat.le_trans this (by omega)
    clear AN hJ HM
    have x0:V.cell? ⟨w.heap.size,0,none⟩=some (.int .i64 r1):=Go.Joins.cell_of_block FV.out 0
    have x1:V.cell? ⟨w.heap.size,1,none⟩=some (.int .i64 r2):=Go.Joins.cell_of_block FV.out 1
    have x2:V.cell? ⟨w.heap.size,2,none⟩=some (.bool r3):=Go.Joins.cell_of_block FV.out 2
    have x3:V.cell? ⟨w.heap.size,3,none⟩=some (.bool r4):=Go.Joins.cell_of_block FV.out 3
    have x4:V.cell? ⟨w.heap.size,4,none⟩=some (.bool r5):=Go.Joins.cell_of_block FV.out 4
    have x5:V.cell? ⟨w.heap.size,5,none⟩=some (.int .i64 r6):=Go.Joins.cell_of_block FV.out 5
    have lv:w.heap.size<V.heap.size:=blk_lt FV.out
    generalize preL [] (L.take k)=P at OV EM PL
    go_wp2_with fail
    refine (WI.out b u7 P (Nat.le_trans PL.out (by omega)) ⟨r1,r2,r3,r4,r5,r6⟩ _ lV OV.out).mono ?_
    rintro e u3 ⟨v1,rfl,ho,hk1⟩
    have O3:Hid (OwnL u3 b v1 (withL P ⟨r1,r2,r3,r4,r5,r6⟩)):=ho
    have B3:Hid (Below b u2 u3):=BV.out.trans (hk1.below OV.out lV)
    have LQ:Hid ((withL P ⟨r1,r2,r3,r4,r5,r6⟩).length<=101):=by have:=withL_len P ⟨r1,r2,r3,r4,r5,r6⟩;have:=PL.out;show _<=_;omega
    generalize withL P ⟨r1,r2,r3,r4,r5,r6⟩=Q at O3 EM LQ
    clear ho hk1 x0 x1 x2 x3 x4 x5 lv OV BV FV lV PL
    have EF:Hid (MM=Q):=by show _=_;rw [EM.out,hkn,List.drop_length];rfl
    clear EM
    go_wp2_with fail
    all_goals
     refine wp_loop_rounds 1 ?_
     rw [rounds_succ]
     obtain ⟨q,d,ev,hq⟩:=own_read O3.out
     clear hq
     obtain ⟨n,hn⟩: ∃ n,Q.length=n:=⟨_,rfl⟩
     have HN:Hid (Q.length=n):=hn
     rw [hn] at ev LQ
     clear hn
     subst ev
     by_cases few:n<=64
     . go_wp2_with fail
       refine (FY.out _ _ _ few _).mono ?_
       rintro e u9 ⟨rfl,hb9⟩
       have B9:Hid (Below w.heap.size w u9):=below_then (B2.out.trans (Go.Joins.below_le B3.out (by omega))) hb9
       have R9:Hid (Ans u9 w.heap.size (.slice q n d) 0 0 MM):=Or.inr ⟨rfl,Or.inl ⟨by rw [EF.out,HN.out];exact few,rfl,by rw [EF.out];exact Go.Joins.ownsRow_le (OwnL.below O3.out hb9) (by omega)⟩⟩
       clear hb9
       go_wp2_with fail
       go_returns
       exact ⟨.slice q n d,0,rfl,R9.out,B9.out⟩
     . go_wp2_with fail
       refine (FN.out _ _ _ (by omega) (Nat.le_trans LQ.out (by omega)) _).mono ?_
       rintro e u9 ⟨rfl,hb9⟩
       have B9:Hid (Below w.heap.size w u9):=below_then (B2.out.trans (Go.Joins.below_le B3.out (by omega))) hb9
       have R9:Hid (Ans u9 w.heap.size (.slice none 0 0) 4 0 MM):=Or.inr ⟨rfl,Or.inr ⟨by rw [EF.out,HN.out];omega,rfl,rfl⟩⟩
       clear hb9
       go_wp2_with fail
       go_returns
       exact ⟨.slice none 0 0,4,rfl,R9.out,B9.out⟩
end Go.Proofs.YtlaiadheelgbdaaGreat.Re
namespace Go.Proofs.YtlaiadheelgbdaaGreat.Re
open Go.ChangeShapes Go.WideShapes Go.ChangeAt Go.RowKit Go.Maps
set_option linter.unusedSimpArgs false
set_option linter.unusedVariables false
set_option maxRecDepth 8000
def errA (E:Int) (M:List Rg):Int:=if E=0 then (if M.length<=64 then 0 else 4) else E
def outL (E:Int) (M:List Rg):List Rg:=if errA E M=0 then M else []
structure Ac where
 how:Int
 fr:Int
 til:Int
 w:Bool
 u:Bool
 x:Bool
 kd:Int
abbrev Ac.val (a:Ac):Value:=.agg #[.int .i64 a.how,.int .i64 a.fr,.int .i64 a.til,.bool a.w,.bool a.u,.bool a.x,.int .i64 a.kd]
end Go.Proofs.YtlaiadheelgbdaaGreat.Re
namespace Go.Proofs.YtlaiadheelgbdaaGreat.Re
open Go.ChangeShapes Go.WideShapes Go.ChangeAt Go.RowKit Go.Maps
set_option linter.unusedSimpArgs false
set_option linter.unusedVariables false
set_option maxRecDepth 8000
theorem IsL.weak {w:World} {base base':Nat} {p:Option Addr} {L:List Rg} (h:IsL w base p L) (hb:base'<=base):IsL w base' p L:=fun i hi=>by
 obtain ⟨g,e,l1,l2,c⟩:=h i hi
 exact ⟨g,e,by omega,l2,c⟩
theorem nil_isb (w:World) (base:Nat):IsL w base none []:=fun i hi=>absurd hi (Nat.not_lt_zero _)
theorem own_readb {w:World} {base:Nat} {v:Value} {L:List Rg} (h:OwnL w base v L): ∃ p c,v=.slice p L.length c/\L.length<=c/\IsL w base p L:=by
 obtain ⟨p,c,e,hi⟩:=own_read h
 refine ⟨p,c,e,?_,hi⟩
 rcases h.2 with ⟨h1,h2⟩ | ⟨g,cap,cur,e1,e2,e3,e4,_⟩
 . omega
 . rw [e] at e1;cases e1;exact e4
theorem ans_readb {w':World} {base:Nat} {v:Value} {er E:Int} {M:List Rg} (h:Ans w' base v er E M):er=errA E M/\ ∃ p c,v=.slice p (outL E M).length c/\(outL E M).length<=c/\IsL w' base p (outL E M):=by
 unfold outL errA
 rcases h with ⟨h1,h2,h3⟩ | ⟨h1,⟨h2,h3,h4⟩ | ⟨h2,h3,h4⟩⟩
 . rw [if_neg h1,if_neg h1]
   exact ⟨h2,none,0,h3,Nat.le_refl _,nil_isb _ _⟩
 . rw [if_pos h1,if_pos h2,if_pos rfl]
   obtain ⟨p,c,e1,e2,e3⟩:=own_readb h4
   exact ⟨h3,p,c,e1,e2,e3⟩
 . rw [if_pos h1,if_neg (by omega),if_neg (by omega)]
   exact ⟨h3,none,0,h4,Nat.le_refl _,nil_isb _ _⟩
end Go.Proofs.YtlaiadheelgbdaaGreat.Re
