import Derived.Test.YtgbdnnkkcpkhdaaGreatDoorChecked
import Derived.WalkKit
import Derived.ProofKit
import Derived.OpenShut
import Derived.Carry
import Derived.Lib.SmallJoins
import Derived.Deep.Light
import Derived.Deep.MidRow
import Derived.Deep.RegionHeld3
import Derived.Deep.DrawnRows
import Derived.Deep.Slices
import Derived.Handy
import Derived.Laws.MakeOwn
import Derived.MapKept
import Derived.Laws.Tables
import Derived.Laws.CopyRow
import Derived.BigQuiet
import Derived.Deep.QuietTactic
import Derived.ChangeKeysEq
import Derived.Laws.StructEq
import Derived.Deep.DeepCutAuto
import Derived.Deep.CutBlock
import Derived.Maps.AppendAt
import Derived.BigRegion
import Derived.WalkSmall
import Derived.Test.YtgbdnnkkcpkhdaaGreatDoorKZc
set_option linter.unusedSimpArgs false
set_option linter.unusedVariables false
set_option maxRecDepth 8000
set_option maxHeartbeats 1000000
namespace Go.Proofs.YtgbdnnkkcpkhdaaGreatDoor.Bm
def Has (L:List (Int × Int)) (n:Int):Prop:= ∃ r∈L,r.1<=n/\n<r.2
def Can (L:List (Int × Int)):Prop:=(∀ r∈L,r.1<r.2)/\L.Pairwise (fun a b=>a.2<b.1)
theorem has_nil (n:Int): ¬ Has [] n:=fun ⟨_,h,_⟩=>absurd h List.not_mem_nil
theorem has_cons (r:Int × Int) (L:List (Int × Int)) (n:Int):Has (r::L) n↔(r.1<=n/\n<r.2)\/Has L n:=by
 constructor
 . rintro ⟨q,hq,h⟩
   rcases List.mem_cons.1 hq with e | e
   . subst e;exact Or.inl h
   . exact Or.inr ⟨q,e,h⟩
 . rintro (h | ⟨q,hq,h⟩)
   . exact ⟨r,List.mem_cons_self,h⟩
   . exact ⟨q,List.mem_cons_of_mem _ hq,h⟩
theorem has_app (L M:List (Int × Int)) (n:Int):Has (L++M) n↔Has L n\/Has M n:=by
 induction L with
 | nil => simp [has_nil]
 | cons r L ih => rw [List.cons_append, has_cons, has_cons, ih, or_assoc]
theorem has_one (r:Int × Int) (n:Int):Has [r] n↔r.1<=n/\n<r.2:=by
 rw [has_cons];simp [has_nil]
theorem has_perm {L M:List (Int × Int)} (h:L.Perm M) (n:Int):Has L n↔Has M n :=
 ⟨fun ⟨r,a,b⟩=>⟨r,h.mem_iff.1 a,b⟩,fun ⟨r,a,b⟩=>⟨r,h.mem_iff.2 a,b⟩⟩
theorem can_nil:Can []:=⟨fun _ h=>absurd h List.not_mem_nil,List.Pairwise.nil⟩
theorem can_cons {r:Int × Int} {L:List (Int × Int)}:Can (r::L)↔r.1<r.2/\(∀ q∈L,r.2<q.1)/\Can L:=by
 constructor
 . rintro ⟨h1,h2⟩
   have:=List.pairwise_cons.1 h2
   exact ⟨h1 r List.mem_cons_self,this.1,fun q hq=>h1 q (List.mem_cons_of_mem _ hq),this.2⟩
 . rintro ⟨h0,h1,h2,h3⟩
   refine ⟨fun q hq=> ?_,List.pairwise_cons.2 ⟨h1,h3⟩⟩
   rcases List.mem_cons.1 hq with e | e
   . subst e;exact h0
   . exact h2 q e
theorem can_app {L M:List (Int × Int)} (h1:Can L) (h2:Can M) (h: ∀ a∈L,∀ b∈M,a.2<b.1):Can (L++M) :=
 ⟨fun r hr=>(List.mem_append.1 hr).elim (h1.1 r) (h2.1 r),List.pairwise_append.2 ⟨h1.2,h2.2,h⟩⟩
theorem can_one {r:Int × Int} (h:r.1<r.2):Can [r]:=can_cons.2 ⟨h,fun q hq=>absurd hq List.not_mem_nil,can_nil⟩
theorem can_first {r:Int × Int} {L:List (Int × Int)} (h:Can (r::L)) {n:Int} (hn:Has (r::L) n):r.1<=n:=by
 obtain ⟨h0,h1,h2⟩:=can_cons.1 h
 rcases (has_cons r L n).1 hn with a | ⟨q,hq,a,_⟩
 . exact a.1
 . have:=h1 q hq;omega
theorem can_head {r:Int × Int} {L:List (Int × Int)} (h:Can (r::L)):Has (r::L) r.1:=⟨r,List.mem_cons_self,Int.le_refl _,(can_cons.1 h).1⟩
theorem can_past {r:Int × Int} {L:List (Int × Int)} (h:Can (r::L)): ¬ Has (r::L) r.2:=by
 obtain ⟨h0,h1,h2⟩:=can_cons.1 h
 intro hn
 rcases (has_cons r L r.2).1 hn with a | ⟨q,hq,a,_⟩
 . omega
 . have:=h1 q hq;omega
theorem can_eq: ∀ (L M:List (Int × Int)),Can L->Can M->(∀ n,Has L n↔Has M n)->L=M
 | [], [], _, _, _ => rfl
 | [], b :: M, _, h2, h => absurd ((h b.1).2 (can_head h2)) (has_nil _)
 | a :: L, [], h1, _, h => absurd ((h a.1).1 (can_head h1)) (has_nil _)
 | a :: L, b :: M, h1, h2, h => by
  have e1:a.1=b.1:=Int.le_antisymm (can_first h1 ((h b.1).2 (can_head h2))) (can_first h2 ((h a.1).1 (can_head h1)))
  obtain ⟨p0,p1,p2⟩:=can_cons.1 h1
  obtain ⟨q0,q1,q2⟩:=can_cons.1 h2
  have e2:a.2=b.2:=by
   rcases Int.lt_trichotomy a.2 b.2 with c | c | c
   . exact absurd ((h a.2).2 ((has_cons b M a.2).2 (Or.inl ⟨by omega,c⟩))) (can_past h1)
   . exact c
   . exact absurd ((h b.2).1 ((has_cons a L b.2).2 (Or.inl ⟨by omega,c⟩))) (can_past h2)
  obtain rfl:a=b:=Prod.ext e1 e2
  congr 1
  refine can_eq L M p2 q2 fun n=> ?_
  have hn:=h n
  rw [has_cons,has_cons] at hn
  constructor
  . intro k
    rcases hn.1 (Or.inr k) with c | c
    . obtain ⟨q,hq,k1,_⟩:=k
      have:=p1 q hq;omega
    . exact c
  . intro k
    rcases hn.2 (Or.inr k) with c | c
    . obtain ⟨q,hq,k1,_⟩:=k
      have:=q1 q hq;omega
    . exact c
theorem nil_or_snoc {α :Type} (L:List α):L=[]\/ ∃ M q,L=M++[q]:=by
 rcases List.eq_nil_or_concat L with e | ⟨M,q,e⟩
 . exact Or.inl e
 . exact Or.inr ⟨M,q,by rw [e,List.concat_eq_append]⟩
def mrg1 (M:List (Int × Int)) (r:Int × Int):List (Int × Int) :=
 if r.2<=r.1 then M else match M.getLast? with
  | none => [r]
  | some q => if r.1 ≤ q.2 then M.dropLast ++ [(q.1, max q.2 r.2)] else M ++ [r]
def mrgL (S:List (Int × Int)):List (Int × Int):=S.foldl mrg1 []
theorem mrg1_empty {M:List (Int × Int)} {r:Int × Int} (h:r.2<=r.1):mrg1 M r=M:=by unfold mrg1;rw [if_pos h]
theorem mrg1_first {r:Int × Int} (h:r.1<r.2):mrg1 [] r=[r]:=by unfold mrg1;rw [if_neg (by omega)];rfl
theorem mrg1_meet {M:List (Int × Int)} {q r:Int × Int} (h:r.1<r.2) (hq:r.1<=q.2):mrg1 (M++[q]) r=M++[(q.1,max q.2 r.2)]:=by
 unfold mrg1;rw [if_neg (by omega)];simp [hq]
theorem mrg1_new {M:List (Int × Int)} {q r:Int × Int} (h:r.1<r.2) (hq:q.2<r.1):mrg1 (M++[q]) r=M++[q]++[r]:=by
 unfold mrg1;rw [if_neg (by omega)];simp;omega
structure MrgI (M:List (Int × Int)) (P:Int->Prop) (k:Int):Prop where
 can:Can M
 has: ∀ n,Has M n↔P n
 low: ∀ q∈M,q.1<=k
theorem can_split {M:List (Int × Int)} {q:Int × Int} (h:Can (M++[q])):Can M/\q.1<q.2/\ ∀ a∈M,a.2<q.1 :=
 ⟨⟨fun r hr=>h.1 r (List.mem_append_left _ hr),(List.pairwise_append.1 h.2).1⟩,h.1 q (List.mem_append_right _ List.mem_cons_self),fun a ha=>(List.pairwise_append.1 h.2).2.2 a ha q List.mem_cons_self⟩
theorem mrg_step {M:List (Int × Int)} {P:Int->Prop} {k:Int} (H:MrgI M P k) (r:Int × Int) (hr:k<=r.1):MrgI (mrg1 M r) (fun n=>P n\/(r.1<=n/\n<r.2)) r.1:=by
 by_cases c:r.2<=r.1
 . rw [mrg1_empty c]
   refine ⟨H.can,fun n=> ?_,fun q hq=>by have:=H.low q hq;omega⟩
   rw [H.has n]
   exact ⟨Or.inl,fun h=>h.elim id (fun h=>by omega)⟩
 . rcases nil_or_snoc M with e | ⟨M',q,e⟩
   . subst e
     rw [mrg1_first (by omega)]
     refine ⟨can_one (by omega),fun n=> ?_,fun q hq=> ?_⟩
     . rw [has_one,<- H.has n]
       exact ⟨Or.inr,fun h=>h.elim (fun h=>absurd h (has_nil _)) id⟩
     . obtain rfl:=List.mem_singleton.1 hq;exact Int.le_refl _
   . subst e
     obtain ⟨h1,h2,h3⟩:=can_split H.can
     have lq:=H.low q (List.mem_append_right _ List.mem_cons_self)
     by_cases d:r.1<=q.2
     . rw [mrg1_meet (by omega) d]
       refine ⟨can_app h1 (can_one kh) fun a ha b hb=> ?_,fun n=> ?_,fun p hp=> ?_⟩
       . obtain rfl:=List.mem_singleton.1 hb;exact h3 a ha
       . rw [has_app,has_one,<- H.has n,has_app,has_one]
         constructor
         . rintro (h | ⟨ha,hb⟩)
           . exact Or.inl (Or.inl h)
           . have hb':n<max q.2 r.2:=hb
             have ha':q.1<=n:=ha
             by_cases e:n<q.2
             . exact Or.inl (Or.inr ⟨ha',e⟩)
             . exact Or.inr ⟨by omega,by omega⟩
         . rintro ((h | ⟨ha,hb⟩) | ⟨ha,hb⟩)
           . exact Or.inl h
           . exact Or.inr ⟨ha,by show n<max q.2 r.2;omega⟩
           . exact Or.inr ⟨by show q.1<=n;omega,by show n<max q.2 r.2;omega⟩
       . rcases List.mem_append.1 hp with e | e
         . have:=H.low p (List.mem_append_left _ e);omega
         . obtain rfl:=List.mem_singleton.1 e;show q.1<=r.1;omega
     . rw [mrg1_new (by omega) (by omega)]
       refine ⟨can_app H.can (can_one (by omega)) fun a ha b hb=> ?_,fun n=> ?_,fun p hp=> ?_⟩
       . obtain rfl:=List.mem_singleton.1 hb
         rcases List.mem_append.1 ha with e | e
         . have:=h3 a e;omega
         . obtain rfl:=List.mem_singleton.1 e;omega
       . rw [has_app,has_one,<- H.has n]
       . rcases List.mem_append.1 hp with e | e
         . have:=H.low p e;omega
         . obtain rfl:=List.mem_singleton.1 e;exact Int.le_refl _
theorem mrg_fold: ∀ (S M:List (Int × Int)) (P:Int->Prop) (k:Int),MrgI M P k->(S.Pairwise fun a b=>a.1<=b.1)->(∀ r∈S,k<=r.1)->Can (S.foldl mrg1 M)/\ ∀ n,Has (S.foldl mrg1 M) n↔P n\/Has S n
 | [], M, P, k, H, _, _ => ⟨H.can, fun n => by
  show Has M n↔_
  rw [H.has n];exact ⟨Or.inl,fun h=>h.elim id (fun h=>absurd h (has_nil _))⟩⟩
 | r :: S, M, P, k, H, hs, hk => by
  obtain ⟨h1,h2⟩:=List.pairwise_cons.1 hs
  have:=mrg_fold S (mrg1 M r) _ r.1 (mrg_step H r (hk r List.mem_cons_self)) h2 h1
  refine ⟨this.1,fun n=> ?_⟩
  show Has (S.foldl mrg1 (mrg1 M r)) n↔_
  rw [this.2 n,has_cons,or_assoc]
theorem mrg_any (S:List (Int × Int)) (hs:S.Pairwise fun a b=>a.1<=b.1):Can (mrgL S)/\ ∀ n,Has (mrgL S) n↔Has S n:=by
 cases S with
 | nil => exact ⟨can_nil, fun n => Iff.rfl⟩
 | cons r S =>
  have:=mrg_fold (r::S) [] (fun _=>False) r.1 ⟨can_nil,fun n=>⟨fun h=>absurd h (has_nil _),False.elim⟩,fun q hq=>absurd hq List.not_mem_nil⟩ hs (fun q hq=>by
   rcases List.mem_cons.1 hq with e | e
   . subst e;exact Int.le_refl _
   . exact (List.pairwise_cons.1 hs).1 q e)
  exact ⟨this.1,fun n=>by rw [mrgL,this.2 n];exact ⟨fun h=>h.elim False.elim id,Or.inr⟩⟩
def restL (f t:Int):List (Int × Int)->List (Int × Int)
 | [] => if f < t then [(f, t)] else []
 | c :: cs => if t ≤ c.1 then (if f < t then [(f, t)] else []) else (if f < c.1 then [(f, c.1)] else []) ++ restL c.2 t cs
theorem rest_any: ∀ (cs:List (Int × Int)) (f t:Int),Can cs->(∀ c∈cs,f<c.2) ->
 Can (restL f t cs)/\(∀ q∈restL f t cs,f<=q.1/\q.2<=t)/\ ∀ n,Has (restL f t cs) n↔(f<=n/\n<t)/\ ¬ Has cs n
 | [], f, t, _, _ => by
  unfold restL
  by_cases c:f<t
  . rw [if_pos c]
    refine ⟨can_one c,fun q hq=> ?_,fun n=> ?_⟩
    . obtain rfl:=List.mem_singleton.1 hq;exact ⟨Int.le_refl _,Int.le_refl _⟩
    . rw [has_one];exact ⟨fun h=>⟨h,has_nil _⟩,fun h=>h.1⟩
  . rw [if_neg c]
    exact ⟨can_nil,fun q hq=>absurd hq List.not_mem_nil,fun n=>⟨fun h=>absurd h (has_nil _),fun h=>by omega⟩⟩
 | c :: cs, f, t, hc, hf => by
  obtain ⟨c0,c1,c2⟩:=can_cons.1 hc
  have f0:=hf c List.mem_cons_self
  unfold restL
  by_cases d:t<=c.1
  . rw [if_pos d]
    have no: ∀ n,n<t-> ¬ Has (c::cs) n:=fun n hn h=>by
     have:=can_first hc h
     omega
    by_cases e:f<t
    . rw [if_pos e]
      refine ⟨can_one e,fun q hq=> ?_,fun n=> ?_⟩
      . obtain rfl:=List.mem_singleton.1 hq;exact ⟨Int.le_refl _,Int.le_refl _⟩
      . rw [has_one];exact ⟨fun h=>⟨h,no n h.2⟩,fun h=>h.1⟩
    . rw [if_neg e]
      exact ⟨can_nil,fun q hq=>absurd hq List.not_mem_nil,fun n=>⟨fun h=>absurd h (has_nil _),fun h=>by omega⟩⟩
  . rw [if_neg d]
    obtain ⟨i1,i2,i3⟩:=rest_any cs c.2 t c2 (fun q hq=>by have:=c1 q hq;have:=c2.1 q hq;omega)
    by_cases e:f<c.1
    . rw [if_pos e]
      refine ⟨can_app (can_one e) i1 fun a ha b hb=> ?_,fun q hq=> ?_,fun n=> ?_⟩
      . obtain rfl:=List.mem_singleton.1 ha
        have:=i2 b hb
        show c.1<b.1
        omega
      . rcases List.mem_append.1 hq with k | k
        . obtain rfl:=List.mem_singleton.1 k
          exact ⟨Int.le_refl _,by show c.1<=t;omega⟩
        . have:=i2 q k;omega
      . rw [has_app,has_one,i3 n,has_cons]
        constructor
        . rintro (⟨a,b⟩ | ⟨⟨a,b⟩,k⟩)
          . have a':f<=n:=a
            have b':n<c.1:=b
            refine ⟨⟨a',by omega⟩,?_⟩
            rintro (k | ⟨q,hq,k,_⟩)
            . omega
            . have:=c1 q hq;omega
          . refine ⟨⟨by omega,b⟩,?_⟩
            rintro (k' | k')
            . omega
            . exact k k'
        . rintro ⟨⟨a,b⟩,k⟩
          by_cases g:n<c.1
          . exact Or.inl ⟨a,g⟩
          . refine Or.inr ⟨⟨?_,b⟩,fun k'=>k (Or.inr k')⟩
            refine Int.not_lt.1 fun g'=>k (Or.inl ⟨by omega,g'⟩)
    . rw [if_neg e,List.nil_append]
      refine ⟨i1,fun q hq=>by have:=i2 q hq;omega,fun n=> ?_⟩
      rw [i3 n,has_cons]
      constructor
      . rintro ⟨⟨a,b⟩,k⟩
        refine ⟨⟨by omega,b⟩,?_⟩
        rintro (k' | k')
        . omega
        . exact k k'
      . rintro ⟨⟨a,b⟩,k⟩
        refine ⟨⟨?_,b⟩,fun k'=>k (Or.inr k')⟩
        exact Int.not_lt.1 fun g'=>k (Or.inl ⟨by omega,g'⟩)
def dropL (f:Int):List (Int × Int)->List (Int × Int)
 | [] => []
 | c :: cs => if c.2 ≤ f then dropL f cs else c :: cs
def lessL:List (Int × Int)->List (Int × Int)->List (Int × Int)
 | [], _ => []
 | r :: L, cs => restL r.1 r.2 (dropL r.1 cs) ++ lessL L (dropL r.1 cs)
theorem drop_any: ∀ (cs:List (Int × Int)) (f:Int),Can cs->Can (dropL f cs)/\(∀ c∈dropL f cs,f<c.2)/\ ∀ n,f<=n->(Has (dropL f cs) n↔Has cs n)
 | [], f, h => ⟨can_nil, fun c hc => absurd hc List.not_mem_nil, fun n _ => Iff.rfl⟩
 | c :: cs, f, h => by
  obtain ⟨c0,c1,c2⟩:=can_cons.1 h
  unfold dropL
  by_cases d:c.2<=f
  . rw [if_pos d]
    obtain ⟨i1,i2,i3⟩:=drop_any cs f c2
    refine ⟨i1,i2,fun n hn=> ?_⟩
    rw [i3 n hn,has_cons]
    exact ⟨Or.inr,fun h=>h.elim (fun h=>by omega) id⟩
  . rw [if_neg d]
    refine ⟨h,fun q hq=> ?_,fun n _=>Iff.rfl⟩
    rcases List.mem_cons.1 hq with e | e
    . subst e;omega
    . have:=c1 q e;have:=c2.1 q e;omega
theorem less_any: ∀ (L cs:List (Int × Int)),Can L->Can cs->Can (lessL L cs)/\(∀ q∈lessL L cs,∀ r L',L=r::L'->r.1<=q.1)/\ ∀ n,Has (lessL L cs) n↔Has L n/\ ¬ Has cs n
 | [], cs, _, _ => ⟨can_nil, fun q hq => absurd hq List.not_mem_nil, fun n => ⟨fun h => absurd h (has_nil _), fun h => absurd h.1 (has_nil _)⟩⟩
 | r :: L, cs, h, hc => by
  obtain ⟨r0,r1,r2⟩:=can_cons.1 h
  obtain ⟨d1,d2,d3⟩:=drop_any cs r.1 hc
  obtain ⟨p1,p2,p3⟩:=rest_any (dropL r.1 cs) r.1 r.2 d1 d2
  obtain ⟨i1,i2,i3⟩:=less_any L (dropL r.1 cs) r2 d1
  have low: ∀ q∈lessL L (dropL r.1 cs),r.2<q.1:=fun q hq=>by
   cases L with
   | nil => exact absurd hq List.not_mem_nil
   | cons a L' =>
    have:=i2 q hq a L' rfl
    have:=r1 a List.mem_cons_self
    omega
  unfold lessL
  refine ⟨can_app p1 i1 fun a ha b hb=> ?_,fun q hq a L' e=> ?_,fun n=> ?_⟩
  . have:=p2 a ha;have:=low b hb;omega
  . obtain ⟨rfl,rfl⟩:=List.cons.inj e
    rcases List.mem_append.1 hq with k | k
    . exact (p2 q k).1
    . have:=low q k;omega
  . rw [has_app,p3 n,i3 n,has_cons]
    constructor
    . rintro (⟨a,b⟩ | ⟨a,b⟩)
      . exact ⟨Or.inl a,fun k=>b ((d3 n a.1).2 k)⟩
      . obtain ⟨q,hq,k1,_⟩:=id a
        have:=r1 q hq
        exact ⟨Or.inr a,fun k=>b ((d3 n (by omega)).2 k)⟩
    . rintro ⟨a | a,b⟩
      . exact Or.inl ⟨a,fun k=>b ((d3 n a.1).1 k)⟩
      . obtain ⟨q,hq,k1,_⟩:=id a
        have:=r1 q hq
        exact Or.inr ⟨a,fun k=>b ((d3 n (by omega)).1 k)⟩
end Go.Proofs.YtgbdnnkkcpkhdaaGreatDoor.Bm
namespace Go.Proofs.YtgbdnnkkcpkhdaaGreatDoor.Bm
open Go.ChangeShapes Go.WideShapes Go.ChangeAt Go.RowKit Go.Maps
theorem below_new {w w':World} (h:bc w w') (o:Obj):bc w (w'.alloc o):=h.alloc h.size o
theorem below_then {w x y:World} (h1:bc w x) (h2:bc x y):bc w y:=h1.trans (Go.Joins.below_le h2 h1.size)
theorem below_drew {n:Nat} {w W:World} (h:Below n w W):Below n w W.drew:=⟨h.os,h.tape,h.output,h.size,h.block⟩
theorem below_drewN {n m:Nat} {w W:World} (h:Below n w W):Below n w (W.drewN m):=⟨h.os,h.tape,h.output,h.size,h.block⟩
theorem own1 (w:World) (o:Obj):(w.alloc o).heap[w.heap.size]? =some o:=(MapKept.heap_alloc w o).1
theorem blk_lt {w:World} {b:Nat} {o:Obj} (h:w.heap[b]? =some o):b<w.heap.size:=(Array.getElem?_eq_some_iff.1 h).1
abbrev Blk (w:World) (b:Nat) (C:List Value) (t:TypeId):Prop:=w.heap[b]? =some (.cells C.toArray t (0,0))
section
variable {w:World} {b:Nat} {C:List Value} {t:TypeId}
theorem Blk.cell (h:Blk w b C t) (i:Nat):w.cell? ⟨b,i,none⟩=C[i]? :=by rw [Go.Joins.cell_of_block h i];simp
theorem Blk.free (h:Blk w b C t) (i:Nat):w.frozen? ⟨b,i,none⟩=false:=Go.Joins.unfrozen_of_block h i
theorem Blk.below {w w':World} {b:Nat} {C:List Value} {t:TypeId} (h:Blk w b C t) (k:bc w w'):Blk w' b C t:=(k.block b (blk_lt h)).trans h
theorem Blk.made (w:World) (C:List Value) (t:TypeId):Blk (w.alloc (.cells C.toArray t)) w.heap.size C t:=own1 w _
theorem Blk.set (h:Blk w b C t) (i:Nat) (v:Value):Blk (w.setCell ⟨b,i,none⟩ v) b (C.set i v) t:=by
 unfold Blk
 rw [Go.Joins.block_setCell h];simp
theorem Blk.there (h:Blk w b C t):w.there b 0 C.length:=fun j hj=>by
 rw [Nat.zero_add]
 exact ⟨by rw [h.cell j,List.getElem?_eq_getElem hj];rfl,h.free j⟩
theorem Blk.range (h:Blk w b C t):w.rangeAt b 0 C:=fun j v hv=>by rw [Nat.zero_add,h.cell j];exact hv
theorem results_one {fn:Func} {p:Tmp} {t:TypeId} (h:fn.results= #[.cell p t]) (tmps:Array Value) (P:Program) (w:World) (a:Addr) (x:Value)
 (ha:tmps.getD p undef=.pointer (some a)) (hx:(loadVar t a).run P w=.ok x w):(results fn tmps).run P w=.ok x w:=by
 simp only [results,h]
 have e1: ∀ W:World,(asAddr (Value.pointer (some a))).run P W=.ok a W:=fun _=>rfl
 simp at ha
 simp [Sem.run_bind,Result.andThen,ha,e1,hx]
theorem wpList_app {P:Program} {ops:Array Oper} {rest:List Oper} {o:Oper} {a:Act} {w:World} {Q:Exit->Act->World->Prop} (hgd:o.guard=none) (s x:Operand) (t:TypeId)
 (ho:o.op=.call { callee:=.builtin .append,args:= #[s,x],argTypes:= #[t,t] }) (vs vx:Value) (hs:a.eval s=vs) (hx:a.eval x=vx) (v':Value) (w1:World)
 (hr:(Builtin.append_ #[t,t] o.type #[vs,vx]).run P w=.ok v' w1) (h:wpList P ops Q rest (a.put o.dst v') w1):wpList P ops Q (o::rest) a w:=by
 refine wpList_plain hgd fun K hK=> ?_
 unfold Oper.wp execOp
 simp only [ho,resolve,invoke,builtin,Sem.run_bind,Sem.run_pure,Result.andThen_ok,List.map_toArray,List.map_cons,List.map_nil,hs,hx,hr]
 exact hK _ _ h
theorem row_keep {w w':World} {base n e s:Nat} {v:Value} {xs:List Value} (h:w.ownsRow base e s v n xs) (hb: ∀ g,v.ownBlock=some g->w'.heap[g]? =w.heap[g]?):w'.ownsRow base e s v n xs:=by
 obtain ⟨h1,h2⟩:=h
 refine ⟨h1,?_⟩
 rcases h2 with h2 | ⟨g',cap',cur,e1,e2,e3,e4⟩
 . exact Or.inl h2
 . exact Or.inr ⟨g',cap',cur,e1,e2,(hb g' (by rw [e1];rfl)).trans e3,e4⟩
theorem row_lt {w:World} {base n e s:Nat} {v:Value} {xs:List Value} (h:w.ownsRow base e s v n xs): ∀ g,v.ownBlock=some g->base<=g/\g<w.heap.size:=by
 obtain ⟨h1,h2⟩:=h
 rcases h2 with ⟨rfl,_⟩ | ⟨g',cap',cur,rfl,e2,e3,e4⟩
 . intro j e;cases e
 . intro j e;cases e;exact ⟨e2,blk_lt e3⟩
theorem row_weak {w:World} {base base' n e s:Nat} {v:Value} {xs:List Value} (h:w.ownsRow base e s v n xs) (hb:base'<=base):w.ownsRow base' e s v n xs:=by
 obtain ⟨h1,h2⟩:=h
 rcases h2 with h2 | ⟨g',cap',cur,e1,e2,e3,e4⟩
 . exact ⟨h1,Or.inl h2⟩
 . exact ⟨h1,Or.inr ⟨g',cap',cur,e1,by omega,e3,e4⟩⟩
theorem row_below {w W:World} {base n e s:Nat} {v:Value} {xs:List Value} (h:w.ownsRow base e s v n xs) (hb:bc w W):W.ownsRow base e s v n xs:=row_keep h (fun g e=>hb.block g (row_lt h g e).2)
variable {α :Type}
def LL (k:Nat) (enc: α ->List Value) (w:World) (lo:Nat) (v:Value) (L:List α):Prop :=
 (v=.slice none 0 0/\L=[])\/ ∃ g o c,v=.slice (some ⟨g,o,none⟩) L.length c/\L.length<=c/\lo<=g/\g<w.heap.size/\ ∀ i (hi:i<L.length),∀ j,j<k->w.cell? ⟨g,o+i*k+j,none⟩=(enc L[i])[j]?
theorem LL.high {k:Nat} {enc: α ->List Value} {w W:World} {lo:Nat} {v:Value} {L:List α} (H:LL k enc w lo v L) (hs:w.heap.size<=W.heap.size) (hb: ∀ j,lo<=j->j<w.heap.size->W.heap[j]? =w.heap[j]?):LL k enc W lo v L:=by
 rcases H with h | ⟨g,o,c,hv,hc,l0,lg,h⟩
 . exact Or.inl h
 . refine Or.inr ⟨g,o,c,hv,hc,l0,nla lg hs,fun i hi j hj=> ?_⟩
   rw [World.cell?_of_block (w:=w) (a:=⟨g,o+i*k+j,none⟩) (hb g l0 lg)];exact h i hi j hj
theorem LL.below {k:Nat} {enc: α ->List Value} {w W:World} {lo:Nat} {v:Value} {L:List α} (H:LL k enc w lo v L) (hb:bc w W):LL k enc W lo v L:=H.high hb.size (fun j _ hj=>hb.block j hj)
theorem LL.low {k:Nat} {enc: α ->List Value} {w:World} {lo lo':Nat} {v:Value} {L:List α} (H:LL k enc w lo v L) (h:lo'<=lo):LL k enc w lo' v L:=by
 rcases H with h' | ⟨g,o,c,hv,hc,l0,r⟩
 . exact Or.inl h'
 . exact Or.inr ⟨g,o,c,hv,hc,Nat.le_trans h l0,r⟩
theorem LL.form {k:Nat} {enc: α ->List Value} {w:World} {lo:Nat} {v:Value} {L:List α} (H:LL k enc w lo v L): ∃ p c,v=.slice p L.length c/\L.length<=c/\(p=none->L=[]/\c=0)/\ ∀ i (hi:i<L.length),∃ g o,p=some ⟨g,o,none⟩/\lo<=g/\g<w.heap.size/\ ∀ j,j<k->w.cell? ⟨g,o+i*k+j,none⟩=(enc L[i])[j]? :=by
 rcases H with ⟨h1,h2⟩ | ⟨g,o,c,hv,hc,l0,lg,h⟩
 . subst h2
   exact ⟨none,0,h1,Nat.le_refl _,fun _=>⟨rfl,rfl⟩,fun i hi=>absurd hi (Nat.not_lt_zero _)⟩
 . exact ⟨_,c,hv,hc,(fun h=>by cases h),fun i hi=>⟨g,o,rfl,l0,lg,h i hi⟩⟩
theorem ll_nil (k:Nat) (enc: α ->List Value) (w:World) (lo:Nat):LL k enc w lo (.slice none 0 0) []:=Or.inl ⟨rfl,rfl⟩
abbrev OL (T:TypeId) (k:Nat) (enc: α ->List Value) (w:World) (base:Nat) (v:Value) (L:List α):Prop:=w.ownsRow base T k v L.length (L.flatMap enc)
theorem flat_len {enc: α ->List Value} {k:Nat} (hk: ∀ x,(enc x).length=k): ∀ L:List α,(L.flatMap enc).length=L.length*k
 | [] => by simp
 | x :: L => by rw [List.flatMap_cons, List.length_append, flat_len hk L, hk, List.length_cons, Nat.add_mul, Nat.one_mul, Nat.add_comm]
theorem flat_get {enc: α ->List Value} {k:Nat} (hk: ∀ x,(enc x).length=k): ∀ (L:List α) (i:Nat) (hi:i<L.length) (j:Nat),j<k->(L.flatMap enc)[i*k+j]? =(enc L[i])[j]?
 | [], i, hi, _, _ => absurd hi (Nat.not_lt_zero _)
 | x :: L, 0, hi, j, hj => by
  rw [List.flatMap_cons,Nat.zero_mul,Nat.zero_add,List.getElem?_append_left (by rw [hk];exact hj)];rfl
 | x :: L, i + 1, hi, j, hj => by
  rw [List.flatMap_cons,List.getElem?_append_right (by rw [hk,Nat.add_mul,Nat.one_mul];omega),hk]
  have:(i+1)*k+j-k=i*k+j:=by rw [Nat.add_mul,Nat.one_mul];omega
  rw [this,flat_get hk L i (by simpa using hi) j hj];rfl
theorem ol_ll {T:TypeId} {k:Nat} {enc: α ->List Value} (hk: ∀ x,(enc x).length=k) {w:World} {base:Nat} {v:Value} {L:List α} (O:OL T k enc w base v L):LL k enc w base v L:=by
 have hc:=fun g (hg:v.ownBlock=some g)=>World.ownsRow.cells (g:=g) O hg
 obtain ⟨hl',⟨hv,h0⟩ | ⟨g,cap,cur,hv,hb,hblk,hcap,_⟩⟩:=O
 . exact Or.inl ⟨hv,List.eq_nil_of_length_eq_zero h0⟩
 . refine Or.inr ⟨g,0,cap,hv,hcap,hb,blk_lt hblk,fun i hi j hj=> ?_⟩
   have hg:=flat_get hk L i hi j hj
   have hlt:j<(enc L[i]).length:=by rw [hk];exact hj
   rw [List.getElem?_eq_getElem hlt] at hg |-
   have:=hc g (by rw [hv];rfl) (i*k+j) _ hg
   rw [Addr.add_mid,Nat.zero_add] at this
   rw [Nat.zero_add];exact this
theorem ol_none (T:TypeId) (k:Nat) (enc: α ->List Value) (w:World) (base:Nat):OL T k enc w base (.slice none 0 0) []:=World.ownsRow_nil (w:=w) (base:=base) (e:=T) (size:=k)
theorem ol_one {T:TypeId} {k:Nat} {enc: α ->List Value} (hk: ∀ x,(enc x).length=k) (w:World) (base:Nat) (hb:base<=w.heap.size) (x: α):OL T k enc (w.alloc (.cells (enc x).toArray T)) base (.slice (some ⟨w.heap.size,0,none⟩) 1 1) [x] :=
 ⟨by simp [hk],Or.inr ⟨w.heap.size,1,(enc x).toArray,rfl,hb,own1 w _,Nat.le_refl _,by unfold maxLen;omega,by simp [hk],by simp [<- hk x]⟩⟩
theorem app_row {k:Nat} {enc: α ->List Value} (hk: ∀ x,(enc x).length=k) (h1: ∀ x,∀ u∈enc x,u.oneCell'=true) (k0:0<k) {T S:TypeId} {z:Value} {bytes:Nat} (hS:Tryz.prog.underlying S=some (.slice T)) (hI: ∃ i,Tryz.prog.info? T=some i/\i.zero=some z/\i.size=k/\i.bytes=bytes) (hz:z.cells.size=k) (hb8:bytes<=100)
 (base:Nat) (v:Value) (L:List α) (x: α) (hL:L.length<=1048576) (w:World) (h:OL T k enc w base v L) (hb:base<=w.heap.size) :
 ∃ v' W2,(Builtin.append_ #[S,S] S #[v,.slice (some ⟨w.heap.size,0,none⟩) 1 1]).run Tryz.prog (w.alloc (.cells (enc x).toArray T))=.ok v' W2/\OL T k enc W2 base v' (L++[x])/\(w.alloc (.cells (enc x).toArray T)).grownBy W2 v.ownBlock/\(v'.ownBlock=v.ownBlock\/v'.ownBlock=some (w.heap.size+1)):=by
 obtain ⟨i0,hi,hz0,hz1,hz2⟩:=hI
 have O0:OL T k enc (w.alloc (.cells (enc x).toArray T)) base v L:=row_below h baa
 obtain ⟨v',W2,r,ho,hg,_,hat⟩:=run_append_own_at (P:=Tryz.prog) (w.alloc (.cells (enc x).toArray T)) base S S T i0 z k bytes hS hi hz0 hz1 hz2 hz k0 v L.length (L.flatMap enc) O0
  ⟨w.heap.size,0,none⟩ 1 1 (enc x) (by rw [hk,Nat.one_mul]) (fun j u hu=>by
   rw [Addr.add_mid,Nat.zero_add,Go.Joins.cell_of_block (own1 w _)]
   simpa using hu) (h1 x) (by unfold maxLen;omega) (by
    have:(L.length+1)*bytes<=1048577*100:=Nat.mul_le_mul (by omega) hb8
    omega) ke
 rw [World.size_alloc] at hat
 refine ⟨v',W2,r,?_,hg,hat⟩
 show W2.ownsRow base T k v' (L++[x]).length ((L++[x]).flatMap enc)
 rw [List.length_append,List.flatMap_append,List.flatMap_cons,List.flatMap_nil,List.append_nil];exact ho
def eR (x:Int × Int):List Value:=[.int .i64 x.1,.int .i64 x.2]
theorem eR_len (x:Int × Int):(eR x).length=2:=rfl
theorem eR_one (x:Int × Int): ∀ u∈eR x,u.oneCell'=true:=by intro u hu;simp [eR] at hu;rcases hu with rfl | rfl <;> rfl
theorem infoR: ∃ i,Tryz.prog.info? 43=some i/\i.zero=some (.agg #[.int .i64 0,.int .i64 0])/\i.size=2/\i.bytes=16:=⟨_,rfl,by kernel_rfl,by kernel_rfl,by kernel_rfl⟩
abbrev RL (w:World) (lo:Nat) (v:Value) (L:List (Int × Int)):Prop:=LL 2 eR w lo v L
abbrev OR (w:World) (base:Nat) (v:Value) (L:List (Int × Int)):Prop:=OL 43 2 eR w base v L
def eI (x:Int):List Value:=[.int .i64 x]
theorem eI_len (x:Int):(eI x).length=1:=rfl
abbrev IL (w:World) (lo:Nat) (v:Value) (L:List Int):Prop:=LL 1 eI w lo v L
abbrev OI (w:World) (base:Nat) (v:Value) (L:List Int):Prop:=OL 3 1 eI w base v L
structure Ar where
 f:Int
 l:Int
 k:Int
def Ar.wf (a:Ar):Prop:=(0<=a.f/\a.f<18446744073709551616)/\(0<=a.l/\a.l<18446744073709551616)/\(0<=a.k/\a.k<4294967296)
def eA (x:Ar):List Value:=[.int .u64 x.f,.int .u64 x.l,.int .u32 x.k]
theorem eA_len (x:Ar):(eA x).length=3:=rfl
theorem eA_one (x:Ar): ∀ u∈eA x,u.oneCell'=true:=by intro u hu;simp [eA] at hu;rcases hu with rfl | rfl | rfl <;> rfl
theorem infoA: ∃ i,Tryz.prog.info? 179=some i/\i.zero=some (.agg #[.int .u64 0,.int .u64 0,.int .u32 0])/\i.size=3/\i.bytes=24:=⟨_,rfl,by kernel_rfl,by kernel_rfl,by kernel_rfl⟩
abbrev AL (w:World) (lo:Nat) (v:Value) (L:List Ar):Prop:=LL 3 eA w lo v L
def eB (x:Int):List Value:=[.int .u8 x]
theorem eB_len (x:Int):(eB x).length=1:=rfl
theorem infoB: ∃ i,Tryz.prog.info? 5=some i/\i.zero=some (.int .u8 0)/\i.size=1/\i.bytes=1:=⟨_,rfl,by kernel_rfl,by kernel_rfl,by kernel_rfl⟩
def Byt (L:List Int):Prop:= ∀ x∈L,0<=x/\x<256
end
end Go.Proofs.YtgbdnnkkcpkhdaaGreatDoor.Bm
namespace Go.Proofs.YtgbdnnkkcpkhdaaGreatDoor.Bm
open Go.ChangeShapes Go.WideShapes Go.ChangeAt Go.RowKit Go.Maps
theorem or_at (k:Nat) (X v:Int) (x0:0<=X) (x1:X<2 ^ k) (v0:0<=v) (hb:v*2 ^ k<=18446744073709551616-2 ^ k):bits .or .u64 X (v*2 ^ k)=X+v*2 ^ k:=by
 have hp:(0:Int)<2 ^ k:=Int.pow_pos (by omega)
 have hm:0<=v*2 ^ k:=Int.mul_nonneg v0 (by omega)
 rw [u64_or _ _ (by omega) (by omega) (by omega) (by omega),Nat.or_comm]
 have e:(v*2 ^ k).toNat=v.toNat*2 ^ k:=by
  rw [<- Int.toNat_natCast (v.toNat*2 ^ k),Int.natCast_mul,Int.natCast_pow,Int.toNat_of_nonneg v0];rfl
 rw [nat_join k (v*2 ^ k).toNat X.toNat (by rw [e,Nat.mul_mod_left]) (by
  have:((2 ^ k:Nat):Int)=2 ^ k:=by rw [Int.natCast_pow];rfl
  omega)]
 omega
theorem pow256 (n:Nat):(2:Int) ^ (8*n)=256 ^ n:=by rw [Int.pow_mul];rfl
theorem or_byte (X v j:Int) (j0:0<=j) (j8:j<8) (x0:0<=X) (x1:X<256 ^ j.toNat) (v0:0<=v) (v1:v<256) :
 bits .or .u64 X (IntKind.u64.wrap (v*2 ^ (8*j).toNat))=X+v*256 ^ j.toNat/\IntKind.u64.wrap (X+IntKind.u64.wrap (v*2 ^ (8*j).toNat))=X+v*256 ^ j.toNat:=by
 rw [show (8*j).toNat=8*j.toNat by omega,pow256]
 rcases (show j=0\/j=1\/j=2\/j=3\/j=4\/j=5\/j=6\/j=7 by omega) with rfl | rfl | rfl | rfl | rfl | rfl | rfl | rfl
 all_goals
  simp only [Int.reduceToNat,Int.reducePow,Int.mul_one] at *
  rw [IntKind.wrap_u64,Int.emod_eq_of_lt (by omega) (by omega)]
  refine ⟨?_,by rw [IntKind.wrap_u64,Int.emod_eq_of_lt (by omega) (by omega)]⟩
 . have h:=or_at 0 X v (by omega) (by omega) v0 (by omega)
   rw [Int.pow_zero,Int.mul_one] at h;exact h
 . exact or_at 8 X v (by omega) (by omega) v0 (by omega)
 . exact or_at 16 X v (by omega) (by omega) v0 (by omega)
 . exact or_at 24 X v (by omega) (by omega) v0 (by omega)
 . exact or_at 32 X v (by omega) (by omega) v0 (by omega)
 . exact or_at 40 X v (by omega) (by omega) v0 (by omega)
 . exact or_at 48 X v (by omega) (by omega) v0 (by omega)
 . exact or_at 56 X v (by omega) (by omega) v0 (by omega)
def le (c:Nat->Int) (at_:Nat):Nat->Int
 | 0 => 0
 | i + 1 => le c at_ i + c (at_ + i) * 256 ^ i
theorem le_bd {c:Nat->Int} (hc: ∀ i,0<=c i/\c i<256) (a:Nat): ∀ n,0<=le c a n/\le c a n<256 ^ n
 | 0 => by simp [le]
 | n + 1 => by
  have h:=le_bd hc a n
  have h2:=hc (a+n)
  simp only [le]
  have hp:(0:Int)<256 ^ n:=Int.pow_pos (by omega)
  have h3:0<=c (a+n)*256 ^ n:=Int.mul_nonneg h2.1 (by omega)
  have h4:c (a+n)*256 ^ n<=255*256 ^ n:=Int.mul_le_mul_of_nonneg_right (by omega) (by omega)
  rw [Int.pow_succ]
  omega
theorem number_any (g o n c a:Nat) (B:Nat->Int) (hB: ∀ i,0<=B i/\B i<256) (hn:n<=8) (w:World) (hc: ∀ i,i<n->w.cell? ⟨g,o+i,none⟩=some (.int .u8 (B (a+i)))) :
 Calls Tryz.prog 132 #[.slice (some ⟨g,o,none⟩) n c] w fun e w'=>e=.returned (.int .u64 (le B a n))/\w'=w:=by
 have HC:Hid (∀ i,i<n->w.cell? ⟨g,o+i,none⟩=some (.int .u8 (B (a+i)))):=hc
 have HB:Hid (∀ i,0<=B i/\B i<256):=hB
 clear hc hB
 go_enter Tryz.func132,Tryz.ntmps132
 go_wp2
 go_loop [3,8] (fun x i=> ∃ j:Int,0<=j/\j<=n/\i=.int .i64 j/\x=.int .u64 (le B a j.toNat)) (fun _ i=>((n:Int)-intOf i).toNat)
 case atStart=>exact ⟨0,by omega,by omega,rfl,rfl⟩
 case round =>
  obtain ⟨j,j0,j1,rfl,rfl⟩:=hrel
  by_cases cj:j<n
  . obtain ⟨X,hX⟩: ∃ X:Int,le B a j.toNat=X:=⟨_,rfl⟩
    rw [hX]
    obtain ⟨v,hv⟩: ∃ v:Int,B (a+j.toNat)=v:=⟨_,rfl⟩
    have hcell:w.cell? ⟨g,o+j.toNat,none⟩=some (.int .u8 v):=by rw [<- hv];exact HC.out _ (by omega)
    have hvb:0<=v/\v<256:=by rw [<- hv];exact HB.out _
    obtain ⟨v0,v1⟩:=hvb
    have hnext:le B a (j+1).toNat=X+v*256 ^ j.toNat:=by
     rw [show (j+1).toNat=j.toNat+1 by omega]
     simp only [le]
     rw [hX,hv]
    have hXb:=le_bd HB.out a j.toNat
    rw [hX] at hXb
    have HN:Hid (le B a (j+1).toNat=X+v*256 ^ j.toNat/\0<=X/\X<256 ^ j.toNat):=⟨hnext,hXb.1,hXb.2⟩
    have hor:=(or_byte X v j j0 (by omega) HN.out.2.1 HN.out.2.2 v0 v1).1
    have d1:decide (j<(n:Int))=true:=by simp [cj]
    clear hXb hX hv hnext
    go_wp2
    go_round
    case rel=>exact ⟨j+1,by omega,by omega,rfl,by rw [HN.out.1]⟩
    case measure=>simp [intOf];omega
  . have e:j=n:=by omega
    subst e
    have d1:decide ((n:Int)<(n:Int))=false:=by simp
    go_wp2
    go_ret
    exact ⟨rfl,rfl⟩
theorem wanted_mp {c:Prop} [Decidable c] {a b:Prop} (h:c) (ha:a):if c then a else b:=by rw [if_pos h];exact ha
def arB (B:Nat->Int) (a:Nat):Ar:=⟨le B a 8,le B (a+8) 8,le B (a+16) 4⟩
theorem entry_any (g o c a:Nat) (B:Nat->Int) (hB: ∀ i,0<=B i/\B i<256) (hcap:20<=c) (w:World) (hc: ∀ i,i<20->w.cell? ⟨g,o+i,none⟩=some (.int .u8 (B (a+i)))) (hg:g<w.heap.size) :
 Calls Tryz.prog 115 #[.slice (some ⟨g,o,none⟩) 20 c] w (re (.agg (eA (arB B a)).toArray) w):=by
 have hc2: ∀ i,i<20->(w.alloc (.cells #[.int .u64 0,.int .u64 0,.int .u32 0] 179)).cell? ⟨g,o+i,none⟩=some (.int .u8 (B (a+i))):=fun i hi=>by
  rw [World.cell?_alloc_past _ _ _ hg];exact hc i hi
 have C1: ∀ W:World,(∀ i,i<20->W.cell? ⟨g,o+i,none⟩=some (.int .u8 (B (a+i))))->_:=fun W h=>number_any g o 8 c a B hB (by omega) W (fun i hi=>h i (by omega))
 have C2: ∀ W:World,(∀ i,i<20->W.cell? ⟨g,o+i,none⟩=some (.int .u8 (B (a+i))))->_:=fun W h=>number_any g (o+8) 8 (c-8) (a+8) B hB (by omega) W (fun i hi=>by rw [Nat.add_assoc o,Nat.add_assoc a];exact h (8+i) (by omega))
 have C3: ∀ W:World,(∀ i,i<20->W.cell? ⟨g,o+i,none⟩=some (.int .u8 (B (a+i))))->_:=fun W h=>number_any g (o+16) 4 (c-16) (a+16) B hB (by omega) W (fun i hi=>by rw [Nat.add_assoc o,Nat.add_assoc a];exact h (16+i) (by omega))
 have x1:=le_bd hB a 8
 have x2:=le_bd hB (a+8) 8
 have x3:=le_bd hB (a+16) 4
 show Calls Tryz.prog 115 #[.slice (some ⟨g,o,none⟩) 20 c] w (re (.agg #[.int .u64 (le B a 8),.int .u64 (le B (a+8) 8),.int .u32 (le B (a+16) 4)]) w)
 generalize le B a 8=X1 at *
 generalize le B (a+8) 8=X2 at *
 generalize le B (a+16) 4=X3 at *
 have u3:IntKind.u32.wrap X3=X3:=by rw [IntKind.wrap_u32,Int.emod_eq_of_lt (by omega) (by omega)]
 have d1:decide ((8:Int)<=(c:Int))=true:=kh
 have d2:decide ((16:Int)<=(c:Int))=true:=kh
 have d3:decide ((20:Int)<=(c:Int))=true:=kh
 have HC1:Hid _:=C1
 have HC2:Hid _:=C2
 have HC3:Hid _:=C3
 have HS:Hid (∀ i,i<20->(w.alloc (.cells #[.int .u64 0,.int .u64 0,.int .u32 0] 179)).cell? ⟨g,o+i,none⟩=some (.int .u8 (B (a+i)))):=hc2
 have ZB:Hid (Blk (w.alloc (.cells #[.int .u64 0,.int .u64 0,.int .u32 0] 179)) w.heap.size [.int .u64 0,.int .u64 0,.int .u32 0] 179):=Blk.made w [.int .u64 0,.int .u64 0,.int .u32 0] 179
 obtain ⟨b,hbb⟩: ∃ b,w.heap.size=b:=⟨_,rfl⟩
 have BB:Hid (bc w (w.alloc (.cells #[.int .u64 0,.int .u64 0,.int .u32 0] 179))/\w.heap.size<=b/\g<b):=⟨baa,by omega,by omega⟩
 clear hc hB x1 x2 x3 C1 C2 C3 hc2
 go_enter Tryz.func115,Tryz.ntmps115
 go_wp2_with fail
 rw [hbb] at ZB
 clear hbb
 generalize w.alloc (.cells #[.int .u64 0,.int .u64 0,.int .u32 0] 179)=w1 at *
 refine hda (fun W=> ∀ i,i<20->W.cell? ⟨g,o+i,none⟩=some (.int .u8 (B (a+i)))) HS.out fun hHeld=> ?_
 have ZB2:Hid (Blk w1.drew b [.int .u64 0,.int .u64 0,.int .u32 0] 179):=ZB.out
 have BB2:Hid (bc w w1.drew/\w.heap.size<=b/\g<b):=⟨below_drew BB.out.1,BB.out.2⟩
 clear ZB BB
 have ZB:=ZB2
 have BB:=BB2
 clear ZB2 BB2 HS
 generalize w1.drew=U at hHeld ZB BB |-
 refine tma 0 3 rfl ?_
 refine tla 1 4 ((.slice (some ⟨g,o,none⟩) 8 c)) rfl ?_ ?_
 . exact kh1
 refine tma 3 6 rfl ?_
 refine tla 4 7 ((.slice (some ⟨g,o+8,none⟩) 8 (c-8))) rfl ?_ ?_
 . exact kh1
 refine tma 6 9 rfl ?_
 refine tla 7 10 ((.slice (some ⟨g,o+16,none⟩) 4 (c-16))) rfl ?_ ?_
 . exact kh1
 refine rda 2 ⟨some 5,_,_,_,_,none⟩ rfl fun K hK=> ?_
 go_simp
 go_wp2_with (go_at_call 132;refine Calls.mono (HC1.out _ hHeld) ?_;rintro e w2 ⟨rfl,hu⟩)
 subst hu
 refine hK.out _ _ hHeld ?_
 clear hK K hHeld
 intro hHeld
 try simp only [Act.put,zaa,zba,zca]
 refine rda 5 ⟨some 8,_,_,_,_,none⟩ rfl fun K hK=> ?_
 go_simp
 go_wp2_with (go_at_call 132;refine Calls.mono (HC2.out _ hHeld) ?_;rintro e w2 ⟨rfl,hu⟩)
 subst hu
 refine hK.out _ _ hHeld ?_
 clear hK K hHeld
 intro hHeld
 try simp only [Act.put,zaa,zba,zca]
 refine rda 8 ⟨some 11,_,_,_,_,none⟩ rfl fun K hK=> ?_
 go_simp
 go_wp2_with (go_at_call 132;refine Calls.mono (HC3.out _ hHeld) ?_;rintro e w2 ⟨rfl,hu⟩)
 subst hu
 refine hK.out _ _ hHeld ?_
 clear hK K hHeld
 intro hHeld
 try simp only [Act.put,zaa,zba,zca]
 refine tma 9 12 rfl ?_
 refine tma 10 13 rfl ?_
 refine rda 11 ⟨none,.store 179 (.tmp 2) (.tmp 13),_,_,_,none⟩ rfl fun K hK=> ?_
 refine wanted_mp rfl ?_
 have th:w2.there b 0 3:=Blk.there ZB.out
 refine wp_store_mid _ _ _ rfl b 0 #[.int .u64 X1,.int .u64 X2,.int .u32 X3] rfl rfl th ka kr ?_
 (try simp only [List.toList_toArray])
 have F1:Hid (Blk (w2.setCells b 0 [.int .u64 X1,.int .u64 X2,.int .u32 X3]) b [.int .u64 X1,.int .u64 X2,.int .u32 X3] 179/\bc w (w2.setCells b 0 [.int .u64 X1,.int .u64 X2,.int .u32 X3])):=⟨((Blk.set ZB.out 0 (.int .u64 X1)).set 1 (.int .u64 X2)).set 2 (.int .u32 X3),((BB.out.1.setCell (p:=⟨b,0,none⟩) BB.out.2.1 _).setCell (p:=⟨b,1,none⟩) BB.out.2.1 _).setCell (p:=⟨b,2,none⟩) BB.out.2.1 _⟩
 have HS2:Hid (∀ i,i<20->(w2.setCells b 0 [.int .u64 X1,.int .u64 X2,.int .u32 X3]).cell? ⟨g,o+i,none⟩=some (.int .u8 (B (a+i)))):=fun i hi=>by
  have q:=hHeld i hi
  have nb:b≠g:=by have:=BB.out.2;omega
  simp only [World.setCells]
  rw [World.cell?_setCell_far _ _ _ _ nb,World.cell?_setCell_far _ _ _ _ nb,World.cell?_setCell_far _ _ _ _ nb];exact q
 generalize w2.setCells b 0 [.int .u64 X1,.int .u64 X2,.int .u32 X3]=V at *
 refine hK.out _ _ HS2.out ?_
 clear hK K hHeld th ZB BB
 intro hHeld
 try simp only [Act.put,zaa,zba,zca]
 clear hHeld
 refine wpAnyH_done ka ?_ _
 refine NoPanic.normal ?_
 go_wp2_with fail
 refine bodyPost_ret (v:=.agg #[.int .u64 X1,.int .u64 X2,.int .u32 X3]) (results_one Tryz.results115 _ _ _ _ _ rfl (run_loadVar_mid (P:=Tryz.prog) _ b 0 179 [.int .u64 X1,.int .u64 X2,.int .u32 X3] _ F1.out.1.range Tryz.underlying179 rfl ka)) rfl ?_
 exact ⟨rfl,F1.out.2⟩
theorem end_any (f l k:Int) (z:Int) (hz:IntKind.u64.wrap (f+l)=z) (w:World):Calls Tryz.prog 101 #[.agg #[.int .u64 f,.int .u64 l,.int .u32 k]] w fun e w'=>e=.returned (.int .u64 z)/\w'=w.alloc (.cells #[.int .u64 f,.int .u64 l,.int .u32 k] 179):=by
 go_enter Tryz.func101,Tryz.ntmps101
 go_wp2_with fail
 go_ret
 exact ⟨rfl,rfl⟩
theorem below_any (f t top m:Int) (hm:m=min t top) (w:World):Calls Tryz.prog 78 #[.agg #[.int .i64 f,.int .i64 t],.int .i64 top] w (re (.agg #[.int .i64 f,.int .i64 m]) w):=by
 rcases Int.lt_trichotomy t top with c | c | c
 . have d1:decide (top<t)=false:=by simp;omega
   have d2:decide (t<top)=true:=kh
   have d3:decide (t<=top)=true:=kh
   obtain rfl:m=t:=by omega
   clear hm
   go_enter Tryz.func78,Tryz.ntmps78
   go_wp2_with fail
   exact bodyPost_ret (v:=.agg #[.int .i64 f,.int .i64 m]) (by simp [results,Tryz.results78,go_sem]) rfl ⟨rfl,below_new baa _⟩
 . subst c
   obtain rfl:m=t:=by omega
   have d1:decide (m<m)=false:=by simp
   have d3:decide (m<=m)=true:=by simp
   clear hm
   go_enter Tryz.func78,Tryz.ntmps78
   go_wp2_with fail
   exact bodyPost_ret (v:=.agg #[.int .i64 f,.int .i64 m]) (by simp [results,Tryz.results78,go_sem]) rfl ⟨rfl,below_new baa _⟩
 . have d1:decide (top<t)=true:=by simp;omega
   have d2:decide (t<top)=false:=kh
   have d3:decide (t<=top)=false:=kh
   obtain rfl:m=top:=by omega
   clear hm
   go_enter Tryz.func78,Tryz.ntmps78
   go_wp2_with fail
   exact bodyPost_ret (v:=.agg #[.int .i64 f,.int .i64 m]) (by simp [results,Tryz.results78,go_sem]) rfl ⟨rfl,below_new baa _⟩
theorem Blk.far {w:World} {b c:Nat} {C:List Value} {t:TypeId} (h:Blk w b C t) (o:Nat) (v:Value) (ne:b≠c):Blk (w.setCell ⟨c,o,none⟩ v) b C t:=(Below.heap_setCell _ _ _ _ ne).trans h
theorem Blk.scs {w:World} {b c:Nat} {C:List Value} {t:TypeId} (h:Blk w b C t) (ne:b≠c): ∀ (vs:List Value) (o:Nat),Blk (w.setCells c o vs) b C t:=fun vs=>by
 induction vs generalizing w with
 | nil => intro o; exact h
 | cons v r ih => intro o; rw [World.setCells]; exact ih (h.far o v ne) _
theorem res2 {V:World} {rb:Nat} {x y:Value} (H:Blk V rb [x,y] 43):(loadVar 43 ⟨rb,0,none⟩).run Tryz.prog V=.ok (.agg #[x,y]) V :=
 run_loadVar_mid (P:=Tryz.prog) _ rb 0 43 [x,y] _ H.range Tryz.underlying43 rfl ka
theorem whole_any (f l k:Int) (f0:0<=f) (l0:0<=l) (hs:f+l<18446744073709551616) (a b:Int) (ha:a=(f+4095) / 4096) (hb:b=(f+l) / 4096) (w:World):Calls Tryz.prog 79 #[.agg #[.int .u64 f,.int .u64 l,.int .u32 k]] w (re (.agg #[.int .i64 a,.int .i64 b]) w):=by
 have EC:Hid (∀ W:World,_):=fun W=>(end_any f l k (f+l) (by rw [IntKind.wrap_u64,Int.emod_eq_of_lt (by omega) (by omega)]) W).mono fun e w' h=>(show e=.returned (.int .u64 (f+l))/\bc W w' from ⟨h.1,by rw [h.2];exact baa⟩)
 subst hb
 have i1:IntKind.i64.wrap (f / 4096)=f / 4096:=ki1
 have i2:IntKind.i64.wrap ((f+l) / 4096)=(f+l) / 4096:=ki1
 have i3:IntKind.i64.wrap (f / 4096+1)=f / 4096+1:=ki1
 obtain ⟨b0,e0⟩: ∃ b0,w.heap.size=b0:=⟨_,rfl⟩
 obtain ⟨b1,e1⟩: ∃ b1,b0+1=b1:=⟨_,rfl⟩
 have INV:Hid (((Blk ((w.alloc (.cells #[.int .u64 f,.int .u64 l,.int .u32 k] 179)).alloc (.cells #[.int .i64 0,.int .i64 0] 43)) b0 [.int .u64 f,.int .u64 l,.int .u32 k] 179/\Blk ((w.alloc (.cells #[.int .u64 f,.int .u64 l,.int .u32 k] 179)).alloc (.cells #[.int .i64 0,.int .i64 0] 43)) b1 [.int .i64 0,.int .i64 0] 43)/\bc w ((w.alloc (.cells #[.int .u64 f,.int .u64 l,.int .u32 k] 179)).alloc (.cells #[.int .i64 0,.int .i64 0] 43)))):=by
  refine ⟨⟨?_,?_⟩,below_new baa _⟩
  . rw [<- e0];exact (Blk.made w [.int .u64 f,.int .u64 l,.int .u32 k] 179).below baa
  . rw [<- e1,<- e0,<- World.size_alloc w (.cells #[.int .u64 f,.int .u64 l,.int .u32 k] 179)];exact Blk.made _ [.int .i64 0,.int .i64 0] 43
 have BN:Hid (w.heap.size<=b0/\w.heap.size<=b1/\b0≠b1):=⟨by omega,by omega,by omega⟩
 have HA:Hid (a=(f+4095) / 4096):=ha
 clear ha
 go_enter Tryz.func79,Tryz.ntmps79
 go_upto_region 1 with fail
 (try rw [e0]);(try rw [e1])
 clear e0 e1
 generalize ((w.alloc (.cells #[.int .u64 f,.int .u64 l,.int .u32 k] 179)).alloc (.cells #[.int .i64 0,.int .i64 0] 43))=w1 at *
 go_cut [3] (fun v W=> ∃ q:Nat,v=.pointer (some ⟨q,0,none⟩)/\Hid (((Blk W b0 [.int .u64 f,.int .u64 l,.int .u32 k] 179/\Blk W b1 [.int .i64 0,.int .i64 0] 43)/\bc w W)/\Blk W q [.int .i64 (f / 4096),.int .i64 ((f+l) / 4096)] 43/\(q≠b0/\q≠b1)/\w.heap.size<=q))
 case first =>
  refine hda (fun W=>((Blk W b0 [.int .u64 f,.int .u64 l,.int .u32 k] 179/\Blk W b1 [.int .i64 0,.int .i64 0] 43)/\bc w W)) (⟨INV.out.1,below_drew INV.out.2⟩) fun hHeld=> ?_
  clear INV
  generalize w1.drew=U at hHeld  |-
  refine tma 0 4 rfl ?_
  refine tla 1 5 (.int .u64 f) rfl ?_ ?_
  . intro w hSw;(try dsimp only at hSw);have q0:w.cell? ⟨b0,0,none⟩=some (.int .u64 f):=hSw.1.1.cell 0;go_simp;(try simp [*])
  refine tla 2 6 ((.int .u64 (f / 4096))) rfl ?_ ?_
  . exact kj1
  refine tla 3 7 ((.int .i64 (f / 4096))) rfl ?_ ?_
  . exact kj1
  refine tla 4 8 (.agg #[.int .u64 f,.int .u64 l,.int .u32 k]) rfl ?_ ?_
  . intro w hSw;(try dsimp only at hSw);have q0:w.cell? ⟨b0,0,none⟩=some (.int .u64 f):=hSw.1.1.cell 0;have q1:w.cell? ⟨b0,1,none⟩=some (.int .u64 l):=hSw.1.1.cell 1;have q2:w.cell? ⟨b0,2,none⟩=some (.int .u32 k):=hSw.1.1.cell 2;go_simp;(try simp [*])
  refine wpAnyH_ready (rs:=[5,9]) ka (by simp) ?_
  refine AllReadyH.cons (o:=⟨some 9,_,_,_,_,none⟩) rfl (fun K hK=> ?_) (AllReadyH.cons (o:=⟨some 3,_,_,_,_,none⟩) rfl (fun K hK=> ?_) AllReadyH.nil)
  . go_simp
    go_wp2_with (go_at_call 101;refine Calls.mono (EC.out _) ?_;rintro e V ⟨rfl,hu⟩)
    have hS2:((Blk V b0 [.int .u64 f,.int .u64 l,.int .u32 k] 179/\Blk V b1 [.int .i64 0,.int .i64 0] 43)/\bc w V):=⟨⟨hHeld.1.1.below hu,hHeld.1.2.below hu⟩,below_then hHeld.2 hu⟩
    clear hu
    refine hK.out _ _ hS2 ?_
    clear hK K hHeld hS2
    intro hHeld
    try simp only [Act.put,zaa,zba,zca]
    refine tla 6 10 ((.int .u64 ((f+l) / 4096))) rfl ?_ ?_
    . exact kj1
    refine tla 7 11 ((.int .i64 ((f+l) / 4096))) rfl ?_ ?_
    . exact kj1
    refine tma 8 12 rfl ?_
    refine rda 9 ⟨some 3,_,_,_,_,none⟩ rfl fun K hK=> ?_
    go_simp
    have QB:Hid (Blk (V.alloc (.cells #[.int .i64 0,.int .i64 0] 43)) V.heap.size [.int .i64 0,.int .i64 0] 43/\(V.heap.size≠b0/\V.heap.size≠b1)/\w.heap.size<=V.heap.size):=⟨Blk.made V [.int .i64 0,.int .i64 0] 43,⟨by have:=blk_lt hHeld.1.1;omega,by have:=blk_lt hHeld.1.2;omega⟩,hHeld.2.size⟩
    have hS2:((Blk (V.alloc (.cells #[.int .i64 0,.int .i64 0] 43)) b0 [.int .u64 f,.int .u64 l,.int .u32 k] 179/\Blk (V.alloc (.cells #[.int .i64 0,.int .i64 0] 43)) b1 [.int .i64 0,.int .i64 0] 43)/\bc w (V.alloc (.cells #[.int .i64 0,.int .i64 0] 43))):=⟨⟨hHeld.1.1.below baa,hHeld.1.2.below baa⟩,below_new hHeld.2 _⟩
    refine hK.out _ _ hS2 ?_
    clear hK K hHeld hS2
    intro hHeld
    try simp only [Act.put,zaa,zba,zca]
    generalize V.alloc (.cells #[.int .i64 0,.int .i64 0] 43)=Y at hHeld QB |-
    generalize V.heap.size=q at QB |-
    refine rda 10 ⟨none,.store 43 (.tmp 3) (.tmp 12),_,_,_,none⟩ rfl fun K hK=> ?_
    refine wanted_mp rfl ?_
    have th:Y.there q 0 2:=Blk.there QB.out.1
    refine wp_store_mid _ _ _ rfl q 0 #[.int .i64 (f / 4096),.int .i64 ((f+l) / 4096)] rfl rfl th ka kr ?_
    (try simp only [List.toList_toArray])
    have F1:Hid (((Blk (Y.setCells q 0 [.int .i64 (f / 4096),.int .i64 ((f+l) / 4096)]) b0 [.int .u64 f,.int .u64 l,.int .u32 k] 179/\Blk (Y.setCells q 0 [.int .i64 (f / 4096),.int .i64 ((f+l) / 4096)]) b1 [.int .i64 0,.int .i64 0] 43)/\bc w (Y.setCells q 0 [.int .i64 (f / 4096),.int .i64 ((f+l) / 4096)]))/\Blk (Y.setCells q 0 [.int .i64 (f / 4096),.int .i64 ((f+l) / 4096)]) q [.int .i64 (f / 4096),.int .i64 ((f+l) / 4096)] 43/\(q≠b0/\q≠b1)/\w.heap.size<=q):=by
     have Q:=QB.out
     refine ⟨⟨⟨Blk.scs hHeld.1.1 (Ne.symm Q.2.1.1) _ _,Blk.scs hHeld.1.2 (Ne.symm Q.2.1.2) _ _⟩,(hHeld.2.setCell (p:=⟨q,0,none⟩) Q.2.2 _).setCell (p:=⟨q,1,none⟩) Q.2.2 _⟩,(Blk.set Q.1 0 _).set 1 _,Q.2⟩
    generalize Y.setCells q 0 [.int .i64 (f / 4096),.int .i64 ((f+l) / 4096)]=X at *
    refine hK.out _ _ F1.out.1 ?_
    clear hK K hHeld th QB
    intro hHeld
    try simp only [Act.put,zaa,zba,zca]
    clear hHeld
    refine wpAnyH_done ka ?_ _
    refine NoPanic.normal ?_
    try go_wp2_with fail
    go_meet
    exact ⟨q,rfl,F1⟩
  . go_simp
    have QB:Hid (Blk (U.alloc (.cells #[.int .i64 0,.int .i64 0] 43)) U.heap.size [.int .i64 0,.int .i64 0] 43/\(U.heap.size≠b0/\U.heap.size≠b1)/\w.heap.size<=U.heap.size):=⟨Blk.made U [.int .i64 0,.int .i64 0] 43,⟨by have:=blk_lt hHeld.1.1;omega,by have:=blk_lt hHeld.1.2;omega⟩,hHeld.2.size⟩
    have hS2:((Blk (U.alloc (.cells #[.int .i64 0,.int .i64 0] 43)) b0 [.int .u64 f,.int .u64 l,.int .u32 k] 179/\Blk (U.alloc (.cells #[.int .i64 0,.int .i64 0] 43)) b1 [.int .i64 0,.int .i64 0] 43)/\bc w (U.alloc (.cells #[.int .i64 0,.int .i64 0] 43))):=⟨⟨hHeld.1.1.below baa,hHeld.1.2.below baa⟩,below_new hHeld.2 _⟩
    refine hK.out _ _ hS2 ?_
    clear hK K hHeld hS2
    intro hHeld
    try simp only [Act.put,zaa,zba,zca]
    generalize U.alloc (.cells #[.int .i64 0,.int .i64 0] 43)=Y at hHeld QB |-
    generalize U.heap.size=q at QB |-
    refine rda 5 ⟨some 9,_,_,_,_,none⟩ rfl fun K hK=> ?_
    go_simp
    go_wp2_with (go_at_call 101;refine Calls.mono (EC.out _) ?_;rintro e V ⟨rfl,hu⟩)
    have hS2:((Blk V b0 [.int .u64 f,.int .u64 l,.int .u32 k] 179/\Blk V b1 [.int .i64 0,.int .i64 0] 43)/\bc w V):=⟨⟨hHeld.1.1.below hu,hHeld.1.2.below hu⟩,below_then hHeld.2 hu⟩
    have QB2:Hid (Blk V q [.int .i64 0,.int .i64 0] 43/\(q≠b0/\q≠b1)/\w.heap.size<=q):=⟨QB.out.1.below hu,QB.out.2⟩
    clear QB
    have QB:=QB2
    clear QB2
    clear hu
    refine hK.out _ _ hS2 ?_
    clear hK K hHeld hS2
    intro hHeld
    try simp only [Act.put,zaa,zba,zca]
    refine tla 6 10 ((.int .u64 ((f+l) / 4096))) rfl ?_ ?_
    . exact kj1
    refine tla 7 11 ((.int .i64 ((f+l) / 4096))) rfl ?_ ?_
    . exact kj1
    refine tma 8 12 rfl ?_
    refine rda 10 ⟨none,.store 43 (.tmp 3) (.tmp 12),_,_,_,none⟩ rfl fun K hK=> ?_
    refine wanted_mp rfl ?_
    have th:V.there q 0 2:=Blk.there QB.out.1
    refine wp_store_mid _ _ _ rfl q 0 #[.int .i64 (f / 4096),.int .i64 ((f+l) / 4096)] rfl rfl th ka kr ?_
    (try simp only [List.toList_toArray])
    have F1:Hid (((Blk (V.setCells q 0 [.int .i64 (f / 4096),.int .i64 ((f+l) / 4096)]) b0 [.int .u64 f,.int .u64 l,.int .u32 k] 179/\Blk (V.setCells q 0 [.int .i64 (f / 4096),.int .i64 ((f+l) / 4096)]) b1 [.int .i64 0,.int .i64 0] 43)/\bc w (V.setCells q 0 [.int .i64 (f / 4096),.int .i64 ((f+l) / 4096)]))/\Blk (V.setCells q 0 [.int .i64 (f / 4096),.int .i64 ((f+l) / 4096)]) q [.int .i64 (f / 4096),.int .i64 ((f+l) / 4096)] 43/\(q≠b0/\q≠b1)/\w.heap.size<=q):=by
     have Q:=QB.out
     refine ⟨⟨⟨Blk.scs hHeld.1.1 (Ne.symm Q.2.1.1) _ _,Blk.scs hHeld.1.2 (Ne.symm Q.2.1.2) _ _⟩,(hHeld.2.setCell (p:=⟨q,0,none⟩) Q.2.2 _).setCell (p:=⟨q,1,none⟩) Q.2.2 _⟩,(Blk.set Q.1 0 _).set 1 _,Q.2⟩
    generalize V.setCells q 0 [.int .i64 (f / 4096),.int .i64 ((f+l) / 4096)]=X at *
    refine hK.out _ _ F1.out.1 ?_
    clear hK K hHeld th QB
    intro hHeld
    try simp only [Act.put,zaa,zba,zca]
    clear hHeld
    refine wpAnyH_done ka ?_ _
    refine NoPanic.normal ?_
    try go_wp2_with fail
    go_meet
    exact ⟨q,rfl,F1⟩
 case rest =>
  clear INV EC
  obtain ⟨q,rfl,F1⟩:=hcut
  have qa:wc.cell? ⟨b0,0,none⟩=some (.int .u64 f):=F1.out.1.1.1.cell 0
  have qb:wc.cell? ⟨q,0,none⟩=some (.int .i64 (f / 4096)):=F1.out.2.1.cell 0
  have qc:wc.cell? ⟨q,1,none⟩=some (.int .i64 ((f+l) / 4096)):=F1.out.2.1.cell 1
  have qd:wc.cell? ⟨b1,0,none⟩=some (.int .i64 0):=F1.out.1.1.2.cell 0
  have qe:wc.cell? ⟨b1,1,none⟩=some (.int .i64 0):=F1.out.1.1.2.cell 1
  have fb:wc.frozen? ⟨q,0,none⟩=false:=F1.out.2.1.free 0
  have fd:wc.frozen? ⟨b1,0,none⟩=false:=F1.out.1.1.2.free 0
  have fe:wc.frozen? ⟨b1,1,none⟩=false:=F1.out.1.1.2.free 1
  have n1:q≠b0:=F1.out.2.2.1.1
  have n2:q≠b1:=F1.out.2.2.1.2
  have n3:b1≠q:=Ne.symm n2
  by_cases c:f % 4096=0
  . have d1:(f % 4096 != 0)=false:=by simp [c]
    have e1:Hid (f / 4096=a):=by have:=HA.out;show _=_;omega
    go_wp2_with fail
    refine bodyPost_ret (v:=.agg #[.int .i64 (f / 4096),.int .i64 ((f+l) / 4096)]) (results_one Tryz.results79 _ _ _ _ _ rfl (res2 ((F1.out.1.1.2.set 0 (.int .i64 (f / 4096))).set 1 (.int .i64 ((f+l) / 4096))))) rfl ?_
    exact ⟨by rw [e1.out],(F1.out.1.2.setCell (p:=⟨b1,0,none⟩) BN.out.2.1 _).setCell (p:=⟨b1,1,none⟩) BN.out.2.1 _⟩
  . have d1:(f % 4096 != 0)=true:=by simp [c]
    have e1:Hid (f / 4096+1=a):=by have:=HA.out;show _=_;omega
    go_wp2_with fail
    refine bodyPost_ret (v:=.agg #[.int .i64 (f / 4096+1),.int .i64 ((f+l) / 4096)]) (results_one Tryz.results79 _ _ _ _ _ rfl (res2 (((F1.out.1.1.2.far 0 _ n3).set 0 (.int .i64 (f / 4096+1))).set 1 (.int .i64 ((f+l) / 4096))))) rfl ?_
    exact ⟨by rw [e1.out],((F1.out.1.2.setCell (p:=⟨q,0,none⟩) F1.out.2.2.2 _).setCell (p:=⟨b1,0,none⟩) BN.out.2.1 _).setCell (p:=⟨b1,1,none⟩) BN.out.2.1 _⟩
theorem touched_none (f k:Int) (w:World):Calls Tryz.prog 80 #[.agg #[.int .u64 f,.int .u64 0,.int .u32 k]] w (re (.agg #[.int .i64 0,.int .i64 0]) w):=by
 go_enter Tryz.func80,Tryz.ntmps80
 go_wp2_with fail
 exact bodyPost_ret (v:=.agg #[.int .i64 0,.int .i64 0]) (by simp [results,Tryz.results80,go_sem]) rfl ⟨rfl,below_new baa _⟩
theorem touched_any (f l k:Int) (f0:0<=f) (l0:0<l) (hs:f+l<18446744073709551616) (w:World):Calls Tryz.prog 80 #[.agg #[.int .u64 f,.int .u64 l,.int .u32 k]] w (re (.agg #[.int .i64 (f / 4096),.int .i64 ((f+l-1) / 4096+1)]) w):=by
 have EC:Hid (∀ W:World,_):=fun W=>end_any f l k (f+l) (by rw [IntKind.wrap_u64,Int.emod_eq_of_lt (by omega) (by omega)]) W
 have n0:(l==0)=false:=kh
 have n1: ¬ l=0:=by omega
 go_enter Tryz.func80,Tryz.ntmps80
 go_wp2_with fail
 refine Calls.mono (EC.out _) ?_
 rintro e w2 ⟨rfl,rfl⟩
 clear EC
 go_wp2_with fail
 exact bodyPost_ret (v:=.agg #[.int .i64 (f / 4096),.int .i64 ((f+l-1) / 4096+1)]) (by simp [results,Tryz.results80,go_sem]) rfl ⟨rfl,below_new (below_new baa _) _⟩
end Go.Proofs.YtgbdnnkkcpkhdaaGreatDoor.Bm
