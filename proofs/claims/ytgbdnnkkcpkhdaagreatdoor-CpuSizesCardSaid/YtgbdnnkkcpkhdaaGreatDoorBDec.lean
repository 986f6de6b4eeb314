import Derived.Test.YtgbdnnkkcpkhdaaGreatDoorBDdc
import Derived.Test.YtgbdnnkkcpkhdaaGreatDoorBDHc
set_option linter.unusedSimpArgs false
set_option linter.unusedVariables false
set_option maxRecDepth 8000
set_option maxHeartbeats 2000000
namespace Go.Proofs.YtgbdnnkkcpkhdaaGreatDoor.Bd
open Classical in
noncomputable def cnt (F:Nat->Prop):Nat->Nat
 | 0 => 0
 | n + 1 => cnt F n + (if F n then 1 else 0)
theorem cnt_zero (F:Nat->Prop):cnt F 0=0:=rfl
theorem cnt_yes {F:Nat->Prop} {n:Nat} (h:F n):cnt F (n+1)=cnt F n+1:=by
 show cnt F n+_=_;rw [if_pos h]
theorem cnt_no {F:Nat->Prop} {n:Nat} (h: ¬ F n):cnt F (n+1)=cnt F n:=by
 show cnt F n+_=_;rw [if_neg h];rfl
theorem cnt_le (F:Nat->Prop): ∀ n,cnt F n<=n
 | 0 => Nat.le_refl _
 | n + 1 => by
  have:=cnt_le F n
  by_cases c:F n
  . rw [cnt_yes c];omega
  . rw [cnt_no c];omega
theorem cnt_or (F G:Nat->Prop) (h: ∀ i,F i->G i->False): ∀ n,cnt (fun i=>F i\/G i) n=cnt F n+cnt G n
 | 0 => rfl
 | n + 1 => by
  have ih:=cnt_or F G h n
  by_cases a:F n
  . have b: ¬ G n:=fun b=>h n a b
    rw [cnt_yes (F:=fun i=>F i\/G i) (Or.inl a),cnt_yes a,cnt_no b,ih];omega
  . by_cases b:G n
    . rw [cnt_yes (F:=fun i=>F i\/G i) (Or.inr b),cnt_no a,cnt_yes b,ih];omega
    . rw [cnt_no (F:=fun i=>F i\/G i) (fun q=>q.elim a b),cnt_no a,cnt_no b,ih]
theorem cnt_none: ∀ n,cnt (fun _=>False) n=0
 | 0 => rfl
 | n + 1 => by rw [cnt_no (F := fun _ => False) (fun h => h), cnt_none n]
theorem cnt_seg (a b:Nat) (hab:a<=b): ∀ n,cnt (fun i=>a<=i/\i<b) n=min b n-min a n
 | 0 => by rw [cnt_zero]; omega
 | n + 1 => by
  have ih:=cnt_seg a b hab n
  by_cases c:a<=n/\n<b
  . rw [cnt_yes (F:=fun i=>a<=i/\i<b) c,ih];omega
  . rw [cnt_no (F:=fun i=>a<=i/\i<b) c,ih];omega
theorem cnt_sub (F B:Nat->Prop) (h: ∀ i,B i->F i) (n:Nat):cnt (fun i=>F i/\ ¬ B i) n+cnt B n=cnt F n:=by
 rw [<- cnt_or (fun i=>F i/\ ¬ B i) B (fun i a b=>a.2 b)]
 congr 1
 funext i
 apply propext
 constructor
 . rintro (q | q)
   . exact q.1
   . exact h i q
 . intro q
   by_cases c:B i
   . exact Or.inr c
   . exact Or.inl ⟨q,c⟩
theorem cnt_blk {o q M:Nat} (h:q*2 ^ o+2 ^ o<=M):cnt (fun i=>i / 2 ^ o=q) M=2 ^ o:=by
 have e:(fun i=>i / 2 ^ o=q)=(fun i=>q*2 ^ o<=i/\i<q*2 ^ o+2 ^ o):=by funext i;exact propext (in_blk o q i)
 rw [e,cnt_seg _ _ (Nat.le_add_right _ _)]
 generalize 2 ^ o=Q at *
 generalize q*Q=X at *
 omega
def inL (o:Nat) (h:List Int):Nat->Prop:=fun i=> ∃ a,a∈h/\ ∃ q:Nat,a=((q*2 ^ o:Nat):Int)/\i / 2 ^ o=q
theorem Nd.tail {x:Int} {r:List Int} (H:Nd (x::r)):Nd r:=fun k m y km e1 e2=>H (k+1) (m+1) y (by omega) (by simpa using e1) (by simpa using e2)
theorem Nd.head {x:Int} {r:List Int} (H:Nd (x::r)):x∉r:=fun q=>by
 obtain ⟨k,hk,e⟩:=List.getElem_of_mem q
 exact H 0 (k+1) x (by omega) rfl (by simp [List.getElem?_eq_getElem hk,e])
theorem cnt_list (o M:Nat): ∀ h:List Int,Nd h->(∀ a,a∈h-> ∃ q:Nat,a=((q*2 ^ o:Nat):Int)/\q*2 ^ o+2 ^ o<=M)->cnt (inL o h) M=h.length*2 ^ o
 | [], _, _ => by
  have e:inL o []=fun _=>False:=by
   funext i;apply propext
   exact ⟨fun ⟨a,ha,_⟩=>absurd ha List.not_mem_nil,fun f=>False.elim f⟩
  rw [e,cnt_none];simp
 | x :: r, N, H => by
  have ih:=cnt_list o M r N.tail (fun a ha=>H a (List.mem_cons_of_mem _ ha))
  obtain ⟨q,hq,hM⟩:=H x (List.mem_cons_self ..)
  have e:inL o (x::r)=fun i=>inL o r i\/i / 2 ^ o=q:=by
   funext i;apply propext
   constructor
   . rintro ⟨a,ha,p,hp,hi⟩
     rcases List.mem_cons.1 ha with c | c
     . right;rw [c,hq] at hp;rw [hi];exact (mul_inj hp).symm
     . exact Or.inl ⟨a,c,p,hp,hi⟩
   . rintro (⟨a,ha,p,hp,hi⟩ | c)
     . exact ⟨a,List.mem_cons_of_mem _ ha,p,hp,hi⟩
     . exact ⟨x,List.mem_cons_self ..,q,hq,c⟩
  rw [e,cnt_or _ _ (fun i a b=> ?_),ih,cnt_blk hM,List.length_cons,Nat.add_mul,Nat.one_mul]
  obtain ⟨a,ha,p,hp,hi⟩:=a
  have:p=q:=hi.symm.trans b
  rw [this,<- hq] at hp
  exact N.head (by rw [<- hp];exact ha)
def Uk (F:Nat->Prop) (k:Nat):Nat->Prop:=fun i=> ∃ o,o<k/\o<=10/\ ∃ q,cnN F o q/\i / 2 ^ o=q
theorem Uk_zero (F:Nat->Prop) (M:Nat):cnt (Uk F 0) M=0:=by
 have e:Uk F 0=fun _=>False:=by
  funext i;apply propext
  exact ⟨fun ⟨o,h,_⟩=>absurd h (Nat.not_lt_zero _),fun f=>False.elim f⟩
 rw [e,cnt_none]
theorem Uk_all (F:Nat->Prop):Uk F 11=F:=by
 funext i;apply propext
 constructor
 . rintro ⟨o,_,_,q,h,e⟩;exact h.1 i e
 . intro h
   obtain ⟨o,q,_,h2,h3,h4⟩:=cn_max F 10 0 i rfl (fun j e=>by simp at e;rw [e];exact h)
   exact ⟨o,by omega,h2,q,h3,h4 i (by simp)⟩
theorem Uk_step (F:Nat->Prop) (hB:Bnd F) (k:Nat) (hk:k<=10) (h:List Int) (N:Nd h) (hA: ∀ a,a∈h↔can F k a):cnt (Uk F (k+1)) 1048576=cnt (Uk F k) 1048576+h.length*2 ^ k:=by
 have top: ∀ q,cnN F k q->q*2 ^ k+2 ^ k<=1048576:=fun q c=>by
  have p:=p2pos k
  have:=hB _ (can_last c)
  generalize 2 ^ k=Q at *
  generalize q*Q=X at *
  omega
 rw [<- cnt_list k 1048576 h N (fun a ha=>by
  obtain ⟨_,q,e,c⟩:=(hA a).1 ha
  exact ⟨q,e,top q c⟩),<- cnt_or (Uk F k) (inL k h) (fun i a b=> ?_)]
 . congr 1
   funext i
   apply propext
   constructor
   . rintro ⟨o,h1,h2,q,c,e⟩
     by_cases d:o=k
     . subst d;exact Or.inr ⟨_,(hA _).2 ⟨h2,q,rfl,c⟩,q,rfl,e⟩
     . exact Or.inl ⟨o,by omega,h2,q,c,e⟩
   . rintro (⟨o,h1,h2,q,c,e⟩ | ⟨a,ha,q,hq,e⟩)
     . exact ⟨o,by omega,h2,q,c,e⟩
     . refine ⟨k,by omega,hk,q,?_,e⟩
       rw [hA,hq] at ha
       exact (can_iff hk).1 ha
 . obtain ⟨o,h1,h2,q,c,e⟩:=a
   obtain ⟨a,ha,p,hp,e'⟩:=b
   rw [hA,hp] at ha
   have:=cn_dj c ((can_iff hk).1 ha) h2 hk e e'
   omega
theorem Uk_le (F:Nat->Prop) (k:Nat):cnt (Uk F k) 1048576<=1048576:=cnt_le _ _
end Go.Proofs.YtgbdnnkkcpkhdaaGreatDoor.Bd
namespace Go.Proofs.YtgbdnnkkcpkhdaaGreatDoor.Bd
open Go.ChangeShapes Go.WideShapes Go.ChangeAt Go.RowKit Go.Maps
theorem Bt.len2 {w W:World} {base b gb N:Nat} {mbs:Nat->Nat} {svs:Nat->Value} {F:Nat->Prop} {G:Int->Option Int} (H:Bt w W base b gb mbs svs N (can F) G) (hF:Bnd F) (o:Nat) (ho:o<11): ∃ m:Nat,cnt (Uk F (o+1)) 1048576=cnt (Uk F o) 1048576+m*2 ^ o/\Hid (Calls Tryz.prog 85 #[.pointer (some ⟨b,o*2,none⟩)] W fun e w'=>e=.returned (.int .i64 m)/\w'=W):=by
 obtain ⟨C,s,h1,h2,h3⟩:=H
 obtain ⟨h,Fh,n',hB,hP,hH,hl,hA⟩:=h1.bs o ho
 exact ⟨h.length,Uk_step F hF o (by omega) h hP.nd hA,len_any base b (o*2) (mbs o) n' C (s o) h Fh W hB⟩
theorem free_num {S0 S1 m o:Nat} (e:S1=S0+m*2 ^ o) (l:S1<=1048576) (ho:o<=10):wrap64 ((S0:Int)+wrap64 ((m:Int)*2 ^ o))=(S1:Int):=by
 rw [pow_int]
 have e2:((m:Int)*((2 ^ o:Nat):Int))=((m*2 ^ o:Nat):Int):=by rw [Int.natCast_mul]
 rw [e2]
 generalize m*2 ^ o=X at *
 unfold wrap64
 omega
theorem Bt.free {w W:World} {base b gb N:Nat} {mbs:Nat->Nat} {svs:Nat->Value} {F:Nat->Prop} {G:Int->Option Int} (H:Bt w W base b gb mbs svs N (can F) G) (hF:Bnd F):Calls Tryz.prog 46 #[.pointer (some ⟨b,0,none⟩)] W fun e w'=>e=.returned (.int .i64 (cnt F 1048576:Nat))/\w'=W:=by
 have HL:Hid (∀ o,o<11-> ∃ m:Nat,cnt (Uk F (o+1)) 1048576=cnt (Uk F o) 1048576+m*2 ^ o/\Hid (Calls Tryz.prog 85 #[.pointer (some ⟨b,o*2,none⟩)] W fun e w'=>e=.returned (.int .i64 m)/\w'=W)):=fun o ho=>H.len2 hF o ho
 obtain ⟨S,hS⟩: ∃ S:Nat->Nat,∀ k,S k=cnt (Uk F k) 1048576:=⟨fun k=>cnt (Uk F k) 1048576,fun _=>rfl⟩
 have S0:Hid (S 0=0):=(hS 0).trans (Uk_zero F _)
 have SL:Hid (∀ k,S k<=1048576):=fun k=>by rw [hS];exact Uk_le F k
 have SE:S 11=cnt F 1048576:=by rw [hS,Uk_all]
 rw [<- SE]
 have HL2:Hid (∀ o,o<11-> ∃ m:Nat,S (o+1)=S o+m*2 ^ o/\Hid (Calls Tryz.prog 85 #[.pointer (some ⟨b,o*2,none⟩)] W fun e w'=>e=.returned (.int .i64 m)/\w'=W)):=fun o ho=>by
  obtain ⟨m,e,c⟩:=HL.out o ho
  exact ⟨m,by rw [hS,hS];exact e,c⟩
 clear H HL SE hS hF
 go_enter Tryz.func46,Tryz.ntmps46
 go_wp2_with fail
 go_loopw [3,4,5] (fun v u x W'=> ∃ k:Nat,k<=11/\v=.int .i64 (S k)/\x=.int .i64 k/\W'=W) (fun _ _ x _=>11-(Go.RowKit.intOf x).toNat)
 case atStart=>exact ⟨0,by omega,by rw [S0.out];rfl,rfl,rfl⟩
 case round =>
  obtain ⟨k,hk,rfl,rfl,rfl⟩:=hrel
  by_cases c:k<11
  rotate_left
  . have e:k=11:=by omega
    subst e
    clear c
    go_wp2_with fail
    go_ret
    exact ⟨rfl,rfl⟩
  obtain ⟨m,em,LC⟩:=HL2.out k c
  have EM:Hid (wrap64 ((S k:Int)+wrap64 ((m:Int)*2 ^ k))=(S (k+1):Int)):=free_num em (SL.out _) (by omega)
  have d0:decide ((k:Int)<0)=false:=by simp
  have d1:decide ((k:Int)<11)=true:=kh
  clear em
  go_wp2_with fail
  refine Calls.mono LC.out ?_
  rintro e w2 ⟨rfl,rfl⟩
  go_wp2_with fail
  go_roundw
  case rel=>exact ⟨k+1,by omega,by rw [EM.out],by go_num,trivial⟩
  case measure=>simp [Go.RowKit.intOf];omega
end Go.Proofs.YtgbdnnkkcpkhdaaGreatDoor.Bd
