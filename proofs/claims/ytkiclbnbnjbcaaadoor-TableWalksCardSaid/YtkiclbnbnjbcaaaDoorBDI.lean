import Derived.Test.YtkiclbnbnjbcaaaDoorBDF
namespace Go.Proofs.YtkiclbnbnjbcaaaDoor.Bd
set_option linter.unusedSimpArgs false
set_option linter.unusedVariables false
set_option maxRecDepth 8000
open Classical in
noncomputable def cnt (F:Nat->Prop):Nat->Nat
 | 0 => 0
 | n + 1 => cnt F n + (if F n then 1 else 0)
theorem cnt_zero (F:Nat->Prop):cnt F 0=0:=rfl
theorem cnt_yes {F:Nat->Prop} {n:Nat} (h:F n):cnt F (n+1)=cnt F n+1:=by
 show cnt F n+_=_;rw [if_pos h]
theorem cnt_no {F:Nat->Prop} {n:Nat} (h: ¬ F n):cnt F (n+1)=cnt F n:=by
 show cnt F n+_=_;rw [if_neg h];rfl
theorem cnt_le (F:Nat->Prop): ∀ n,cnt F n<=n
 | 0 => Nat.le_refl _
 | n + 1 => by
  have:=cnt_le F n
  by_cases c:F n
  . rw [cnt_yes c];omega
  . rw [cnt_no c];omega
theorem cnt_or (F G:Nat->Prop) (h: ∀ i,F i->G i->False): ∀ n,cnt (fun i=>F i\/G i) n=cnt F n+cnt G n
 | 0 => rfl
 | n + 1 => by
  have ih:=cnt_or F G h n
  by_cases a:F n
  . have b: ¬ G n:=fun b=>h n a b
    rw [cnt_yes (F:=fun i=>F i\/G i) (Or.inl a),cnt_yes a,cnt_no b,ih];omega
  . by_cases b:G n
    . rw [cnt_yes (F:=fun i=>F i\/G i) (Or.inr b),cnt_no a,cnt_yes b,ih];omega
    . rw [cnt_no (F:=fun i=>F i\/G i) (fun q=>q.elim a b),cnt_no a,cnt_no b,ih]
theorem cnt_none: ∀ n,cnt (fun _=>False) n=0
 | 0 => rfl
 | n + 1 => by rw [cnt_no (F := fun _ => False) (fun h => h), cnt_none n]
theorem cnt_seg (a b:Nat) (hab:a<=b): ∀ n,cnt (fun i=>a<=i/\i<b) n=min b n-min a n
 | 0 => by rw [cnt_zero]; omega
 | n + 1 => by
  have ih:=cnt_seg a b hab n
  by_cases c:a<=n/\n<b
  . rw [cnt_yes (F:=fun i=>a<=i/\i<b) c,ih];omega
  . rw [cnt_no (F:=fun i=>a<=i/\i<b) c,ih];omega
theorem cnt_sub (F B:Nat->Prop) (h: ∀ i,B i->F i) (n:Nat):cnt (fun i=>F i/\ ¬ B i) n+cnt B n=cnt F n:=by
 rw [<- cnt_or (fun i=>F i/\ ¬ B i) B (fun i a b=>a.2 b)]
 congr 1
 funext i
 apply propext
 constructor
 . rintro (q | q)
   . exact q.1
   . exact h i q
 . intro q
   by_cases c:B i
   . exact Or.inr c
   . exact Or.inl ⟨q,c⟩
theorem cnt_blk {o q M:Nat} (h:q*2 ^ o+2 ^ o<=M):cnt (fun i=>i / 2 ^ o=q) M=2 ^ o:=by
 have e:(fun i=>i / 2 ^ o=q)=(fun i=>q*2 ^ o<=i/\i<q*2 ^ o+2 ^ o):=by funext i;exact propext (in_blk o q i)
 rw [e,cnt_seg _ _ (Nat.le_add_right _ _)]
 generalize 2 ^ o=Q at *
 generalize q*Q=X at *
 omega
def inL (o:Nat) (h:List Int):Nat->Prop:=fun i=> ∃ a,a∈h/\ ∃ q:Nat,a=((q*2 ^ o:Nat):Int)/\i / 2 ^ o=q
theorem Nd.tail {x:Int} {r:List Int} (H:Nd (x::r)):Nd r:=fun k m y km e1 e2=>H (k+1) (m+1) y (by omega) (by simpa using e1) (by simpa using e2)
theorem Nd.head {x:Int} {r:List Int} (H:Nd (x::r)):x∉r:=fun q=>by
 obtain ⟨k,hk,e⟩:=List.getElem_of_mem q
 exact H 0 (k+1) x (by omega) rfl (by simp [List.getElem?_eq_getElem hk,e])
theorem cnt_list (o M:Nat): ∀ h:List Int,Nd h->(∀ a,a∈h-> ∃ q:Nat,a=((q*2 ^ o:Nat):Int)/\q*2 ^ o+2 ^ o<=M)->cnt (inL o h) M=h.length*2 ^ o
 | [], _, _ => by
  have e:inL o []=fun _=>False:=by
   funext i;apply propext
   exact ⟨fun ⟨a,ha,_⟩=>absurd ha List.not_mem_nil,fun f=>False.elim f⟩
  rw [e,cnt_none];simp
 | x :: r, N, H => by
  have ih:=cnt_list o M r N.tail (fun a ha=>H a (List.mem_cons_of_mem _ ha))
  obtain ⟨q,hq,hM⟩:=H x (List.mem_cons_self ..)
  have e:inL o (x::r)=fun i=>inL o r i\/i / 2 ^ o=q:=by
   funext i;apply propext
   constructor
   . rintro ⟨a,ha,p,hp,hi⟩
     rcases List.mem_cons.1 ha with c | c
     . right;rw [c,hq] at hp;rw [hi];exact (mul_inj hp).symm
     . exact Or.inl ⟨a,c,p,hp,hi⟩
   . rintro (⟨a,ha,p,hp,hi⟩ | c)
     . exact ⟨a,List.mem_cons_of_mem _ ha,p,hp,hi⟩
     . exact ⟨x,List.mem_cons_self ..,q,hq,c⟩
  rw [e,cnt_or _ _ (fun i a b=> ?_),ih,cnt_blk hM,List.length_cons,Nat.add_mul,Nat.one_mul]
  obtain ⟨a,ha,p,hp,hi⟩:=a
  have:p=q:=hi.symm.trans b
  rw [this,<- hq] at hp
  exact N.head (by rw [<- hp];exact ha)
end Go.Proofs.YtkiclbnbnjbcaaaDoor.Bd
