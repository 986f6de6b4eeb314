import Derived.Test.YtajfbieacfjhnaaGreatDoorBDdc
import Derived.Test.YtajfbieacfjhnaaGreatDoorBDcc
import Derived.Shelf.SlIterI.Nil
import Derived.Shelf.SortM.Plain
import Derived.Shelf.SortM.SortNone
import Derived.Ground.GgzProg
import Derived.Ground.SlgmProg
import Derived.Test.YtajfbieacfjhnaaGreatDoorBDHc
namespace Go.Proofs.YtajfbieacfjhnaaGreatDoor.Bd
set_option linter.unusedSimpArgs false
set_option linter.unusedVariables false
set_option maxRecDepth 8000
open Classical in
noncomputable def cnt (F:Nat->Prop):Nat->Nat
 | 0 => 0
 | n + 1 => cnt F n + (if F n then 1 else 0)
theorem cnt_zero (F:Nat->Prop):cnt F 0=0:=rfl
theorem cnt_yes {F:Nat->Prop} {n:Nat} (h:F n):cnt F (n+1)=cnt F n+1:=by
 show cnt F n+_=_;rw [if_pos h]
theorem cnt_no {F:Nat->Prop} {n:Nat} (h: ¬ F n):cnt F (n+1)=cnt F n:=by
 show cnt F n+_=_;rw [if_neg h];rfl
theorem cnt_le (F:Nat->Prop): ∀ n,cnt F n<=n
 | 0 => Nat.le_refl _
 | n + 1 => by
  have:=cnt_le F n
  by_cases c:F n
  . rw [cnt_yes c];omega
  . rw [cnt_no c];omega
theorem cnt_or (F G:Nat->Prop) (h: ∀ i,F i->G i->False): ∀ n,cnt (fun i=>F i\/G i) n=cnt F n+cnt G n
 | 0 => rfl
 | n + 1 => by
  have ih:=cnt_or F G h n
  by_cases a:F n
  . have b: ¬ G n:=fun b=>h n a b
    rw [cnt_yes (F:=fun i=>F i\/G i) (Or.inl a),cnt_yes a,cnt_no b,ih];omega
  . by_cases b:G n
    . rw [cnt_yes (F:=fun i=>F i\/G i) (Or.inr b),cnt_no a,cnt_yes b,ih];omega
    . rw [cnt_no (F:=fun i=>F i\/G i) (fun q=>q.elim a b),cnt_no a,cnt_no b,ih]
theorem cnt_none: ∀ n,cnt (fun _=>False) n=0
 | 0 => rfl
 | n + 1 => by rw [cnt_no (F := fun _ => False) (fun h => h), cnt_none n]
theorem cnt_seg (a b:Nat) (hab:a<=b): ∀ n,cnt (fun i=>a<=i/\i<b) n=min b n-min a n
 | 0 => by rw [cnt_zero]; omega
 | n + 1 => by
  have ih:=cnt_seg a b hab n
  by_cases c:a<=n/\n<b
  . rw [cnt_yes (F:=fun i=>a<=i/\i<b) c,ih];omega
  . rw [cnt_no (F:=fun i=>a<=i/\i<b) c,ih];omega
theorem cnt_sub (F B:Nat->Prop) (h: ∀ i,B i->F i) (n:Nat):cnt (fun i=>F i/\ ¬ B i) n+cnt B n=cnt F n:=by
 rw [<- cnt_or (fun i=>F i/\ ¬ B i) B (fun i a b=>a.2 b)]
 congr 1
 funext i
 apply propext
 constructor
 . rintro (q | q)
   . exact q.1
   . exact h i q
 . intro q
   by_cases c:B i
   . exact Or.inr c
   . exact Or.inl ⟨q,c⟩
theorem cnt_blk {o q M:Nat} (h:q*2 ^ o+2 ^ o<=M):cnt (fun i=>i / 2 ^ o=q) M=2 ^ o:=by
 have e:(fun i=>i / 2 ^ o=q)=(fun i=>q*2 ^ o<=i/\i<q*2 ^ o+2 ^ o):=by funext i;exact propext (in_blk o q i)
 rw [e,cnt_seg _ _ (Nat.le_add_right _ _)]
 generalize 2 ^ o=Q at *
 generalize q*Q=X at *
 omega
def inL (o:Nat) (h:List Int):Nat->Prop:=fun i=> ∃ a,a∈h/\ ∃ q:Nat,a=((q*2 ^ o:Nat):Int)/\i / 2 ^ o=q
theorem Nd.tail {x:Int} {r:List Int} (H:Nd (x::r)):Nd r:=fun k m y km e1 e2=>H (k+1) (m+1) y (by omega) (by simpa using e1) (by simpa using e2)
theorem Nd.head {x:Int} {r:List Int} (H:Nd (x::r)):x∉r:=fun q=>by
 obtain ⟨k,hk,e⟩:=List.getElem_of_mem q
 exact H 0 (k+1) x (by omega) rfl (by simp [List.getElem?_eq_getElem hk,e])
theorem cnt_list (o M:Nat): ∀ h:List Int,Nd h->(∀ a,a∈h-> ∃ q:Nat,a=((q*2 ^ o:Nat):Int)/\q*2 ^ o+2 ^ o<=M)->cnt (inL o h) M=h.length*2 ^ o
 | [], _, _ => by
  have e:inL o []=fun _=>False:=by
   funext i;apply propext
   exact ⟨fun ⟨a,ha,_⟩=>absurd ha List.not_mem_nil,fun f=>False.elim f⟩
  rw [e,cnt_none];simp
 | x :: r, N, H => by
  have ih:=cnt_list o M r N.tail (fun a ha=>H a (List.mem_cons_of_mem _ ha))
  obtain ⟨q,hq,hM⟩:=H x (List.mem_cons_self ..)
  have e:inL o (x::r)=fun i=>inL o r i\/i / 2 ^ o=q:=by
   funext i;apply propext
   constructor
   . rintro ⟨a,ha,p,hp,hi⟩
     rcases List.mem_cons.1 ha with c | c
     . right;rw [c,hq] at hp;rw [hi];exact (mul_inj hp).symm
     . exact Or.inl ⟨a,c,p,hp,hi⟩
   . rintro (⟨a,ha,p,hp,hi⟩ | c)
     . exact ⟨a,List.mem_cons_of_mem _ ha,p,hp,hi⟩
     . exact ⟨x,List.mem_cons_self ..,q,hq,c⟩
  rw [e,cnt_or _ _ (fun i a b=> ?_),ih,cnt_blk hM,List.length_cons,Nat.add_mul,Nat.one_mul]
  obtain ⟨a,ha,p,hp,hi⟩:=a
  have:p=q:=hi.symm.trans b
  rw [this,<- hq] at hp
  exact N.head (by rw [<- hp];exact ha)
def Uk (F:Nat->Prop) (k:Nat):Nat->Prop:=fun i=> ∃ o,o<k/\o<=10/\ ∃ q,cnN F o q/\i / 2 ^ o=q
theorem Uk_zero (F:Nat->Prop) (M:Nat):cnt (Uk F 0) M=0:=by
 have e:Uk F 0=fun _=>False:=by
  funext i;apply propext
  exact ⟨fun ⟨o,h,_⟩=>absurd h (Nat.not_lt_zero _),fun f=>False.elim f⟩
 rw [e,cnt_none]
theorem Uk_all (F:Nat->Prop):Uk F 11=F:=by
 funext i;apply propext
 constructor
 . rintro ⟨o,_,_,q,h,e⟩;exact h.1 i e
 . intro h
   obtain ⟨o,q,_,h2,h3,h4⟩:=cn_max F 10 0 i rfl (fun j e=>by simp at e;rw [e];exact h)
   exact ⟨o,by omega,h2,q,h3,h4 i (by simp)⟩
theorem Uk_step (F:Nat->Prop) (hB:Bnd F) (k:Nat) (hk:k<=10) (h:List Int) (N:Nd h) (hA: ∀ a,a∈h↔can F k a):cnt (Uk F (k+1)) 1048576=cnt (Uk F k) 1048576+h.length*2 ^ k:=by
 have top: ∀ q,cnN F k q->q*2 ^ k+2 ^ k<=1048576:=fun q c=>by
  have p:=p2pos k
  have:=hB _ (can_last c)
  generalize 2 ^ k=Q at *
  generalize q*Q=X at *
  omega
 rw [<- cnt_list k 1048576 h N (fun a ha=>by
  obtain ⟨_,q,e,c⟩:=(hA a).1 ha
  exact ⟨q,e,top q c⟩),<- cnt_or (Uk F k) (inL k h) (fun i a b=> ?_)]
 . congr 1
   funext i
   apply propext
   constructor
   . rintro ⟨o,h1,h2,q,c,e⟩
     by_cases d:o=k
     . subst d;exact Or.inr ⟨_,(hA _).2 ⟨h2,q,rfl,c⟩,q,rfl,e⟩
     . exact Or.inl ⟨o,by omega,h2,q,c,e⟩
   . rintro (⟨o,h1,h2,q,c,e⟩ | ⟨a,ha,q,hq,e⟩)
     . exact ⟨o,by omega,h2,q,c,e⟩
     . refine ⟨k,by omega,hk,q,?_,e⟩
       rw [hA,hq] at ha
       exact (can_iff hk).1 ha
 . obtain ⟨o,h1,h2,q,c,e⟩:=a
   obtain ⟨a,ha,p,hp,e'⟩:=b
   rw [hA,hp] at ha
   have:=cn_dj c ((can_iff hk).1 ha) h2 hk e e'
   omega
theorem Uk_le (F:Nat->Prop) (k:Nat):cnt (Uk F k) 1048576<=1048576:=cnt_le _ _
end Go.Proofs.YtajfbieacfjhnaaGreatDoor.Bd
namespace Go.Proofs.YtajfbieacfjhnaaGreatDoor.Bd
open Go.ChangeShapes Go.WideShapes Go.ChangeAt Go.RowKit Go.Maps Go.Sort Go.Shelf
set_option linter.unusedSimpArgs false
set_option linter.unusedVariables false
set_option maxRecDepth 8000
def keysA_ren:Go.Shelf.Ren:=⟨fun | 7=>30 | 10=>76 | n=>n,fun | 23=>83 | 26=>3 | 3=>3 | 28=>90 | 0=>0 | 27=>89 | 33=>41 | 4=>4 | n=>n,fun | n=>n⟩
theorem keysA:Go.Proofs.SlLaysZI.n7 Tryz.prog keysA_ren:={
 mixed:=by kernel_rfl
 f7:=⟨Tryz.f30.name,by decide,Tryz.func30.trans (congrArg some (by kernel_rfl))⟩
 f10:=⟨Tryz.f76.name,by decide,Tryz.func76.trans (congrArg some (by kernel_rfl))⟩
 t0:=Tryz.underlying0
 a0:=Tryz.isAgg0
 z0:=Tryz.sizeOf0
 v0:=Tryz.zeroValue0
 t4:=Tryz.underlying4
 a4:=Tryz.isAgg4
 z4:=Tryz.sizeOf4
 v4:=Tryz.zeroValue4
 t23:=Tryz.underlying83
 a23:=Tryz.isAgg83
 z23:=Tryz.sizeOf83
 v23:=Tryz.zeroValue83
 t26:=Tryz.underlying3
 a26:=Tryz.isAgg3
 z26:=Tryz.sizeOf3
 v26:=Tryz.zeroValue3
 t27:=Tryz.underlying89
 a27:=Tryz.isAgg89
 z27:=Tryz.sizeOf89
 v27:=Tryz.zeroValue89
 t28:=Tryz.underlying90
 a28:=Tryz.isAgg90
 z28:=Tryz.sizeOf90
 v28:=Tryz.zeroValue90
 t33:=Tryz.underlying41
 a33:=Tryz.isAgg41
 z33:=Tryz.sizeOf41
 v33:=Tryz.zeroValue41 }
def sortedA_ren:Go.Shelf.Ren:=⟨fun | 6=>29 | 8=>74 | 9=>75 | 11=>122 | 13=>62 | 12=>123 | 23=>114 | 24=>115 | 14=>166 | 15=>167 | 16=>168 | 17=>169 | 18=>170 | 19=>171 | 20=>172 | 21=>173 | 22=>174 | 25=>191 | 26=>153 | 27=>154 | 28=>192 | 29=>193 | 30=>116 | 31=>199 | n=>n,fun | 26=>3 | 28=>90 | 24=>60 | 0=>0 | 3=>3 | 37=>142 | 48=>131 | 50=>130 | 4=>4 | 40=>200 | 39=>199 | 45=>96 | 5=>5 | 9=>9 | 51=>240 | 55=>243 | 57=>265 | 58=>266 | 33=>41 | n=>n,fun | n=>n⟩
theorem sortedA:Go.Proofs.SlLaysZI.n6 Tryz.prog sortedA_ren:={
 mixed:=by kernel_rfl
 f6:=⟨Tryz.f29.name,by decide,Tryz.func29.trans (congrArg some (by kernel_rfl))⟩
 f8:=⟨Tryz.f74.name,by decide,Tryz.func74.trans (congrArg some (by kernel_rfl))⟩
 f11:=⟨Tryz.f122.name,by decide,Tryz.func122.trans (congrArg some (by kernel_rfl))⟩
 t0:=Tryz.underlying0
 a0:=Tryz.isAgg0
 z0:=Tryz.sizeOf0
 v0:=Tryz.zeroValue0
 t24:=Tryz.underlying60
 a24:=Tryz.isAgg60
 z24:=Tryz.sizeOf60
 v24:=Tryz.zeroValue60
 t26:=Tryz.underlying3
 a26:=Tryz.isAgg3
 z26:=Tryz.sizeOf3
 v26:=Tryz.zeroValue3
 t28:=Tryz.underlying90
 a28:=Tryz.isAgg90
 z28:=Tryz.sizeOf90
 v28:=Tryz.zeroValue90
 i26:=by kernel_rfl }
def sortA_ren:Go.Shelf.Ren:=⟨fun | 5=>75 | 8=>62 | 7=>123 | 19=>114 | 20=>115 | 10=>166 | 11=>167 | 12=>168 | 13=>169 | 14=>170 | 15=>171 | 16=>172 | 17=>173 | 18=>174 | 30=>191 | 31=>153 | 32=>154 | 33=>192 | 34=>193 | 35=>116 | 40=>199 | n=>n,fun | 23=>60 | 25=>3 | 3=>3 | 32=>142 | 22=>60 | 0=>0 | 44=>131 | 46=>130 | 4=>4 | 36=>200 | 35=>199 | 41=>96 | 5=>5 | 9=>9 | 53=>240 | 57=>243 | 63=>265 | 64=>266 | n=>n,fun | n=>n⟩
theorem sortA:Go.Proofs.SlLaysM.n5 Tryz.prog sortA_ren:={
 mixed:=by kernel_rfl
 f5:=⟨Tryz.f75.name,by decide,Tryz.func75.trans (congrArg some (by kernel_rfl))⟩
 f7:=⟨Tryz.f123.name,by decide,Tryz.func123.trans (congrArg some (by kernel_rfl))⟩
 f8:=Tryz.func62.trans (congrArg some (by kernel_rfl))
 f10:=⟨Tryz.f166.name,by decide,Tryz.func166.trans (congrArg some (by kernel_rfl))⟩
 f11:=⟨Tryz.f167.name,by decide,Tryz.func167.trans (congrArg some (by kernel_rfl))⟩
 f12:=⟨Tryz.f168.name,by decide,Tryz.func168.trans (congrArg some (by kernel_rfl))⟩
 f13:=⟨Tryz.f169.name,by decide,Tryz.func169.trans (congrArg some (by kernel_rfl))⟩
 f14:=⟨Tryz.f170.name,by decide,Tryz.func170.trans (congrArg some (by kernel_rfl))⟩
 f15:=⟨Tryz.f171.name,by decide,Tryz.func171.trans (congrArg some (by kernel_rfl))⟩
 f16:=⟨Tryz.f172.name,by decide,Tryz.func172.trans (congrArg some (by kernel_rfl))⟩
 f17:=⟨Tryz.f173.name,by decide,Tryz.func173.trans (congrArg some (by kernel_rfl))⟩
 f18:=⟨Tryz.f174.name,by decide,Tryz.func174.trans (congrArg some (by kernel_rfl))⟩
 f19:=Tryz.func114.trans (congrArg some (by kernel_rfl))
 f20:=Tryz.func115.trans (congrArg some (by kernel_rfl))
 f30:=⟨Tryz.f191.name,by decide,Tryz.func191.trans (congrArg some (by kernel_rfl))⟩
 f31:=Tryz.func153.trans (congrArg some (by kernel_rfl))
 f32:=Tryz.func154.trans (congrArg some (by kernel_rfl))
 f33:=⟨Tryz.f192.name,by decide,Tryz.func192.trans (congrArg some (by kernel_rfl))⟩
 f34:=⟨Tryz.f193.name,by decide,Tryz.func193.trans (congrArg some (by kernel_rfl))⟩
 f35:=⟨Tryz.f116.name,by decide,Tryz.func116.trans (congrArg some (by kernel_rfl))⟩
 f40:=⟨Tryz.f199.name,by decide,Tryz.func199.trans (congrArg some (by kernel_rfl))⟩
 t0:=Tryz.underlying0
 a0:=Tryz.isAgg0
 z0:=Tryz.sizeOf0
 v0:=Tryz.zeroValue0
 t3:=Tryz.underlying3
 a3:=Tryz.isAgg3
 z3:=Tryz.sizeOf3
 v3:=Tryz.zeroValue3
 t4:=Tryz.underlying4
 a4:=Tryz.isAgg4
 z4:=Tryz.sizeOf4
 v4:=Tryz.zeroValue4
 t5:=Tryz.underlying5
 a5:=Tryz.isAgg5
 z5:=Tryz.sizeOf5
 v5:=Tryz.zeroValue5
 t9:=Tryz.underlying9
 a9:=Tryz.isAgg9
 z9:=Tryz.sizeOf9
 v9:=Tryz.zeroValue9
 t22:=Tryz.underlying60
 a22:=Tryz.isAgg60
 z22:=Tryz.sizeOf60
 v22:=Tryz.zeroValue60
 t23:=Tryz.underlying60
 a23:=Tryz.isAgg60
 z23:=Tryz.sizeOf60
 v23:=Tryz.zeroValue60
 t25:=Tryz.underlying3
 a25:=Tryz.isAgg3
 z25:=Tryz.sizeOf3
 v25:=Tryz.zeroValue3
 t32:=Tryz.underlying142
 a32:=Tryz.isAgg142
 z32:=Tryz.sizeOf142
 v32:=Tryz.zeroValue142
 t35:=Tryz.underlying199
 a35:=Tryz.isAgg199
 z35:=Tryz.sizeOf199
 v35:=Tryz.zeroValue199
 t36:=Tryz.underlying200
 a36:=Tryz.isAgg200
 z36:=Tryz.sizeOf200
 v36:=Tryz.zeroValue200
 t41:=Tryz.underlying96
 a41:=Tryz.isAgg96
 z41:=Tryz.sizeOf96
 v41:=Tryz.zeroValue96
 t44:=Tryz.underlying131
 a44:=Tryz.isAgg131
 z44:=Tryz.sizeOf131
 v44:=Tryz.zeroValue131
 t46:=Tryz.underlying130
 a46:=Tryz.isAgg130
 z46:=Tryz.sizeOf130
 v46:=Tryz.zeroValue130
 t53:=Tryz.underlying240
 a53:=Tryz.isAgg240
 z53:=Tryz.sizeOf240
 v53:=Tryz.zeroValue240
 t57:=Tryz.underlying243
 a57:=Tryz.isAgg243
 z57:=Tryz.sizeOf243
 v57:=Tryz.zeroValue243
 t63:=Tryz.underlying265
 a63:=Tryz.isAgg265
 z63:=Tryz.sizeOf265
 v63:=Tryz.zeroValue265
 t64:=Tryz.underlying266
 a64:=Tryz.isAgg266
 z64:=Tryz.sizeOf266
 v64:=Tryz.zeroValue266 }
def keysS_ren:Go.Shelf.Ren:=⟨fun | 7=>52 | 10=>102 | n=>n,fun | 23=>72 | 26=>3 | 3=>77 | 28=>90 | 0=>0 | 27=>89 | 33=>41 | 4=>4 | n=>n,fun | n=>n⟩
theorem keysS:Go.Proofs.SlLaysZI.n7 Tryz.prog keysS_ren:={
 mixed:=by kernel_rfl
 f7:=⟨Tryz.f52.name,by decide,Tryz.func52.trans (congrArg some (by kernel_rfl))⟩
 f10:=⟨Tryz.f102.name,by decide,Tryz.func102.trans (congrArg some (by kernel_rfl))⟩
 t0:=Tryz.underlying0
 a0:=Tryz.isAgg0
 z0:=Tryz.sizeOf0
 v0:=Tryz.zeroValue0
 t4:=Tryz.underlying4
 a4:=Tryz.isAgg4
 z4:=Tryz.sizeOf4
 v4:=Tryz.zeroValue4
 t23:=Tryz.underlying72
 a23:=Tryz.isAgg72
 z23:=Tryz.sizeOf72
 v23:=Tryz.zeroValue72
 t26:=Tryz.underlying3
 a26:=Tryz.isAgg3
 z26:=Tryz.sizeOf3
 v26:=Tryz.zeroValue3
 t27:=Tryz.underlying89
 a27:=Tryz.isAgg89
 z27:=Tryz.sizeOf89
 v27:=Tryz.zeroValue89
 t28:=Tryz.underlying90
 a28:=Tryz.isAgg90
 z28:=Tryz.sizeOf90
 v28:=Tryz.zeroValue90
 t33:=Tryz.underlying41
 a33:=Tryz.isAgg41
 z33:=Tryz.sizeOf41
 v33:=Tryz.zeroValue41 }
theorem sortsA (m:Nat):AnyZI.SortsIn Tryz.prog sortedA_ren Fence.wide m :=
 ⟨fun blk off cap ss W hH hblk hsz=>callsIn_wide.2 (AnyM.slices_Sort_int sortA blk off cap ss W hH hblk hsz),
  fun p cap W=>callsIn_wide.2 (AnyM.slices_Sort_int_none sortA p cap W)⟩
theorem keys_any (mb:Option Nat) (W:World):Calls Tryz.prog 30 #[.map mb] W fun e w'=>e=.returned (.func (.func 76) #[] #[.pointer (some ⟨W.heap.size,0,none⟩)])/\w'=W.alloc (.cells #[.map mb] 83) :=
 (callsIn_wide (n:=5)).1 (AnyZI.keys_in keysA Fence.wide 5 trivial rfl mb W)
def Asc (L:List Int):Prop:=L.Pairwise (· < ·)
theorem keys_mem {w:World} {b nn:Nat} {D0:DataW Unit} (hown:w.ownsMap Tryz.prog 3 (plainElem Tryz.prog 3) b nn D0):(intKeys D0).Nodup/\ ∀ x,x∈intKeys D0↔Maps.has D0 (.int .i64 x)=true:=by
 obtain ⟨es,hD,hpw,_⟩:=hown.entries keyLaw
 obtain ⟨es',hD',hko⟩:=hown.keysOf
 obtain rfl:es=es':=by rw [hD] at hD';simpa using hD'
 subst hD
 have hk: ∀ p∈es,∃ x,p.1=.int .i64 x:=fun p hp=>by obtain ⟨v,hv⟩:=hko p hp;obtain ⟨x,_,hx,_⟩:=Maps.keyOf_i64 Tryz.underlying3 hv;exact ⟨x,hx⟩
 constructor
 . show (es.map fun p=>Go.intOf p.1).Nodup
   refine List.pairwise_map.2 (hpw.imp_of_mem fun {p q} hp' hq' hne e=>hne ?_)
   obtain ⟨a,ha⟩:=hk p hp'
   obtain ⟨b,hb⟩:=hk q hq'
   rw [ha,hb] at e |-
   exact congrArg _ e
 . intro x
   rw [has_eq,List.any_eq_true]
   show x∈(es.map fun p=>Go.intOf p.1)↔_
   rw [List.mem_map]
   constructor
   . rintro ⟨p,hp',rfl⟩
     obtain ⟨a,ha⟩:=hk p hp'
     exact ⟨p,hp',by rw [ha];simp [Lit.sameKey,Go.intOf]⟩
   . rintro ⟨p,hp',hs⟩
     obtain ⟨a,ha⟩:=hk p hp'
     rw [ha] at hs
     exact ⟨p,hp',by rw [ha];simpa [Lit.sameKey,Go.intOf] using hs⟩
theorem sort_asc {ss:List Int} (h:ss.Nodup):Asc (ss.mergeSort leI)/\ ∀ x,x∈ss.mergeSort leI↔x∈ss:=by
 have tr: ∀ a b c:Int,leI a b=true->leI b c=true->leI a c=true:=fun a b c h1 h2=>by simp only [leI,decide_eq_true_eq] at *;exact Int.le_trans h1 h2
 have to_: ∀ a b:Int,(leI a b || leI b a)=true:=fun a b=>by simp only [leI,Bool.or_eq_true,decide_eq_true_eq];exact Int.le_total a b
 have P:=List.mergeSort_perm ss leI
 refine ⟨?_,fun x=>P.mem_iff⟩
 have a:=List.pairwise_mergeSort tr to_ ss
 have b:(ss.mergeSort leI).Nodup:=P.nodup_iff.2 h
 unfold Asc
 have:=a.and b
 refine this.imp ?_
 rintro x y ⟨h1,h2⟩
 simp only [leI,decide_eq_true_eq] at h1
 have h2':x≠y:=h2
 omega
set_option maxHeartbeats 1000000 in
theorem sorted_any (b n c:Nat) (f:Int->Option Int) (hn:n<=1048600) (w:World) (h:MapC w b n c f) :
 Calls Tryz.prog 29 #[.func (.func 76) #[] #[.pointer (some ⟨w.heap.size,0,none⟩)]] (w.alloc (.cells #[.map (some b)] 83)) fun e w'=> ∃ (v:Value) (L:List Int),e=.returned v/\Asc L/\(∀ x,x∈L↔(f x).isSome=true)/\w'.ownsRow w.heap.size 3 1 v L.length (L.map (Value.int .i64))/\Below w.heap.size w w':=by
 obtain ⟨D0,hown,hc,hD⟩:=h
 have hs:Maps.size D0<=n:=hown.size_le
 have hbl:=hown.lt
 have KM:=keys_mem hown
 have hseq:SeqGives Fence.wide 2 Tryz.prog 76 #[.pointer (some ⟨w.heap.size,0,none⟩)] encZ (fun ss=>ss.Perm (intKeys D0)) (Maps.size D0) (w.alloc (.cells #[.map (some b)] 83)) :=
  AnyZI.keys_gives (ρ :=keysA_ren) { keysA with } Fence.wide _ trivial rfl (by omega) w.heap.size b n D0 _ (by simp) (by simp) (by
   obtain ⟨es,clock,hb,Ft,hs,hD⟩:=hown
   exact ⟨es,clock,(Below.heap_alloc _ _ b hbl).trans hb,Ft,hs,hD⟩)
 have cS:=AnyZI.sorted_in sortedA Fence.wide 5 trivial trivial trivial trivial rfl (by omega) (sortsA _) (enters_of Tryz.func75 (by kernel_rfl) rfl) 76 #[.pointer (some ⟨w.heap.size,0,none⟩)] trivial (enters_of Tryz.func76 (by kernel_rfl) rfl) _ _ (by unfold maxLen;omega) (by omega) _ hseq
 change CallsIn _ _ Tryz.prog 29 _ _ _ at cS
 refine ((callsIn_wide (n:=5)).1 cS).mono ?_
 rintro e w' ⟨v,ss,rfl,hS,hrow,hnil,hb⟩
 have nd:ss.Nodup:=hS.nodup_iff.2 KM.1
 have SA:=sort_asc nd
 refine ⟨v,ss.mergeSort leI,rfl,SA.1,fun x=> ?_,?_,((Below.refl _ w).alloc (Nat.le_refl _) _).trans (hb.mono (by simp))⟩
 . rw [SA.2 x,hS.mem_iff,KM.2 x,(hD x).1]
 . have r:=ownsRow_base_a hrow (base':=w.heap.size) (by simp)
   rw [List.length_mergeSort]
   exact r
end Go.Proofs.YtajfbieacfjhnaaGreatDoor.Bd
namespace Go.Proofs.YtajfbieacfjhnaaGreatDoor.Bd
open Go.ChangeShapes Go.WideShapes Go.ChangeAt Go.RowKit Go.Maps
set_option linter.unusedSimpArgs false
set_option linter.unusedVariables false
set_option maxRecDepth 8000
theorem Bt.len2 {w W:World} {base b gb N:Nat} {mbs:Nat->Nat} {svs:Nat->Value} {F:Nat->Prop} {G:Int->Option Int} (H:Bt w W base b gb mbs svs N (can F) G) (hF:Bnd F) (o:Nat) (ho:o<11): ∃ m:Nat,cnt (Uk F (o+1)) 1048576=cnt (Uk F o) 1048576+m*2 ^ o/\Hid (Calls Tryz.prog 99 #[.pointer (some ⟨b,o*2,none⟩)] W fun e w'=>e=.returned (.int .i64 m)/\w'=W):=by
 obtain ⟨C,s,h1,h2,h3⟩:=H
 obtain ⟨h,Fh,n',hB,hP,hH,hl,hA⟩:=h1.bs o ho
 exact ⟨h.length,Uk_step F hF o (by omega) h hP.nd hA,len_any base b (o*2) (mbs o) n' C (s o) h Fh W hB⟩
theorem free_num {S0 S1 m o:Nat} (e:S1=S0+m*2 ^ o) (l:S1<=1048576) (ho:o<=10):wrap64 ((S0:Int)+wrap64 ((m:Int)*2 ^ o))=(S1:Int):=by
 rw [pow_int]
 have e2:((m:Int)*((2 ^ o:Nat):Int))=((m*2 ^ o:Nat):Int):=by rw [Int.natCast_mul]
 rw [e2]
 generalize m*2 ^ o=X at *
 unfold wrap64
 omega
set_option maxHeartbeats 2000000 in
theorem Bt.free {w W:World} {base b gb N:Nat} {mbs:Nat->Nat} {svs:Nat->Value} {F:Nat->Prop} {G:Int->Option Int} (H:Bt w W base b gb mbs svs N (can F) G) (hF:Bnd F):Calls Tryz.prog 49 #[.pointer (some ⟨b,0,none⟩)] W fun e w'=>e=.returned (.int .i64 (cnt F 1048576:Nat))/\w'=W:=by
 have HL:Hid (∀ o,o<11-> ∃ m:Nat,cnt (Uk F (o+1)) 1048576=cnt (Uk F o) 1048576+m*2 ^ o/\Hid (Calls Tryz.prog 99 #[.pointer (some ⟨b,o*2,none⟩)] W fun e w'=>e=.returned (.int .i64 m)/\w'=W)):=fun o ho=>H.len2 hF o ho
 obtain ⟨S,hS⟩: ∃ S:Nat->Nat,∀ k,S k=cnt (Uk F k) 1048576:=⟨fun k=>cnt (Uk F k) 1048576,fun _=>rfl⟩
 have S0:Hid (S 0=0):=(hS 0).trans (Uk_zero F _)
 have SL:Hid (∀ k,S k<=1048576):=fun k=>by rw [hS];exact Uk_le F k
 have SE:S 11=cnt F 1048576:=by rw [hS,Uk_all]
 rw [<- SE]
 have HL2:Hid (∀ o,o<11-> ∃ m:Nat,S (o+1)=S o+m*2 ^ o/\Hid (Calls Tryz.prog 99 #[.pointer (some ⟨b,o*2,none⟩)] W fun e w'=>e=.returned (.int .i64 m)/\w'=W)):=fun o ho=>by
  obtain ⟨m,e,c⟩:=HL.out o ho
  exact ⟨m,by rw [hS,hS];exact e,c⟩
 clear H HL SE hS hF
 go_enter Tryz.func49,Tryz.ntmps49
 go_wp2_with fail
 go_loopw [3,4,5] (fun v u x W'=> ∃ k:Nat,k<=11/\v=.int .i64 (S k)/\x=.int .i64 k/\W'=W) (fun _ _ x _=>11-(Go.RowKit.intOf x).toNat)
 case atStart=>exact ⟨0,by omega,by rw [S0.out];rfl,rfl,rfl⟩
 case round =>
  obtain ⟨k,hk,rfl,rfl,rfl⟩:=hrel
  by_cases c:k<11
  rotate_left
  . have e:k=11:=by omega
    subst e
    clear c
    go_wp2_with fail
    go_ret
    exact ⟨rfl,rfl⟩
  obtain ⟨m,em,LC⟩:=HL2.out k c
  have EM:Hid (wrap64 ((S k:Int)+wrap64 ((m:Int)*2 ^ k))=(S (k+1):Int)):=free_num em (SL.out _) (by omega)
  have d0:decide ((k:Int)<0)=false:=by simp
  have d1:decide ((k:Int)<11)=true:=by simp;omega
  clear em
  go_wp2_with fail
  refine Calls.mono LC.out ?_
  rintro e w2 ⟨rfl,rfl⟩
  go_wp2_with fail
  go_roundw
  case rel=>exact ⟨k+1,by omega,by rw [EM.out],by go_num,trivial⟩
  case measure=>simp [Go.RowKit.intOf];omega
theorem Bt.look {w W:World} {base b gb N:Nat} {mbs:Nat->Nat} {svs:Nat->Value} {A:Nat->Int->Prop} {G:Int->Option Int} (H:Bt w W base b gb mbs svs N A G) {x:Int} (hx:(Lit.int .i64 x).wf=true):(Instr.lookup 83 (.map (some gb)) (.int .i64 x) true).run Tryz.prog W=.ok (.tuple #[.int .i64 ((G x).getD 0),.bool (G x).isSome]) W/\W.cell? ⟨b,22,none⟩=some (.map (some gb))/\b<W.heap.size:=by
 obtain ⟨C,s,h1,h2,h3⟩:=H
 obtain ⟨n,hn',hm⟩:=h1.gm
 have bk:=h1.blk
 exact ⟨hm.look hx,by rw [bk.1.cell,h1.cg],blk_lt bk.1⟩
theorem Bt.order {w W:World} {base b gb N:Nat} {mbs:Nat->Nat} {svs:Nat->Value} {A:Nat->Int->Prop} {G:Int->Option Int} (H:Bt w W base b gb mbs svs N A G) {x:Int} (hx:(Lit.int .i64 x).wf=true):Calls Tryz.prog 69 #[.pointer (some ⟨b,0,none⟩),.int .i64 x] W fun e w'=>e=.returned (.int .i64 ((G x).getD (-1)))/\w'=W:=by
 obtain ⟨lk,c22,lb⟩:=H.look hx
 clear H hx
 cases hg:G x with
 | none =>
  rw [hg] at lk
  simp only [Option.getD_none,Option.isSome_none] at lk |-
  clear hg
  go_enter Tryz.func69,Tryz.ntmps69
  go_wp2_with fail
  go_ret
  exact ⟨rfl,rfl⟩
 | some v =>
  rw [hg] at lk
  simp only [Option.getD_some,Option.isSome_some] at lk |-
  clear hg
  go_enter Tryz.func69,Tryz.ntmps69
  go_wp2_with fail
  go_ret
  exact ⟨rfl,rfl⟩
set_option maxHeartbeats 1000000 in
theorem Bt.given {w W:World} {base b gb N:Nat} {mbs:Nat->Nat} {svs:Nat->Value} {A:Nat->Int->Prop} {G:Int->Option Int} (H:Bt w W base b gb mbs svs N A G) (hn:N<=1048600):Calls Tryz.prog 68 #[.pointer (some ⟨b,0,none⟩)] W fun e w'=> ∃ (v:Value) (L:List Int),e=.returned v/\Asc L/\(∀ x,x∈L↔(G x).isSome=true)/\w'.ownsRow W.heap.size 3 1 v L.length (L.map (Value.int .i64))/\Below W.heap.size W w':=by
 obtain ⟨C,s,h1,h2,h3⟩:=H
 obtain ⟨n,hn',hm⟩:=h1.gm
 have bk:=h1.blk
 have c22:W.cell? ⟨b,22,none⟩=some (.map (some gb)):=by rw [bk.1.cell,h1.cg]
 have lb:=blk_lt bk.1
 have SC:Hid (_):=sorted_any gb n n G (by omega) W hm
 have KC:Hid (_):=keys_any (some gb) W
 clear h1 h2 h3 hm bk
 go_enter Tryz.func68,Tryz.ntmps68
 go_wp2_with fail
 refine Calls.mono KC.out ?_
 rintro e w1 ⟨rfl,rfl⟩
 go_wp2_with fail
 refine Calls.mono SC.out ?_
 rintro e w1 ⟨v,L,rfl,hL⟩
 have HL:Hid (Asc L/\(∀ x,x∈L↔(G x).isSome=true)/\w1.ownsRow W.heap.size 3 1 v L.length (L.map (Value.int .i64))/\Below W.heap.size W w1):=hL
 clear hL
 go_wp2_with fail
 go_ret
 exact ⟨v,L,rfl,HL.out⟩
set_option maxHeartbeats 1000000 in
theorem Bt.blocks {w W:World} {base b gb N:Nat} {mbs:Nat->Nat} {svs:Nat->Value} {A:Nat->Int->Prop} {G:Int->Option Int} (H:Bt w W base b gb mbs svs N A G) (hn:N<=1048600) (o:Nat) (ho:o<11):Calls Tryz.prog 65 #[.pointer (some ⟨b,0,none⟩),.int .i64 o] W fun e w'=> ∃ (v:Value) (L:List Int),e=.returned v/\Asc L/\(∀ x,x∈L↔A o x)/\w'.ownsRow W.heap.size 3 1 v L.length (L.map (Value.int .i64))/\Below W.heap.size W w':=by
 obtain ⟨C,s,h1,h2,h3⟩:=H
 obtain ⟨h,Fh,n',hB,hP,hH,hl,hA⟩:=h1.bs o ho
 have c22:W.cell? ⟨b,o*2,none⟩=some (.map (some (mbs o))):=by rw [hB.blk.cell,hB.cm]
 have lb:=blk_lt hB.blk
 have SC:Hid (_):=sorted_any (mbs o) n' n' Fh (by omega) W hB.mp
 have KC:Hid (_):=keys_any (some (mbs o)) W
 have MM:Hid (∀ x,(Fh x).isSome=true↔A o x):=fun x=>by rw [placed_mem hP,hA]
 have IO:=isorder_any (o:Int)
 rw [decide_eq_true (by omega:(0:Int)<=(o:Int)/\(o:Int)<=10)] at IO
 have IO':Hid (∀ W:World,Calls Tryz.prog 117 #[.int .i64 o] W fun e w'=>e=.returned (.bool true)/\w'=W):=IO
 have d0:decide ((o:Int)<0)=false:=by simp
 have d1:decide ((o:Int)<11)=true:=by simp;omega
 generalize mbs o=mb at *
 clear h1 h2 h3 hB hP hH hl hA IO
 go_enter Tryz.func65,Tryz.ntmps65
 go_wp2_with fail
 refine (IO'.out _).mono ?_
 rintro e w' ⟨rfl,rfl⟩
 go_wp2_with fail
 refine Calls.mono KC.out ?_
 rintro e w1 ⟨rfl,rfl⟩
 go_wp2_with fail
 refine Calls.mono SC.out ?_
 rintro e w1 ⟨v,L,rfl,h1,h2,h3⟩
 have HL:Hid (Asc L/\(∀ x,x∈L↔A o x)/\w1.ownsRow w'.heap.size 3 1 v L.length (L.map (Value.int .i64))/\Below w'.heap.size w' w1):=⟨h1,fun x=>(h2 x).trans (MM.out x),h3⟩
 clear h1 h2 h3
 go_wp2_with fail
 go_ret
 exact ⟨v,L,rfl,HL.out⟩
end Go.Proofs.YtajfbieacfjhnaaGreatDoor.Bd
