import Derived.Test.YthmobfelhpbllaaGreatDoorOWb
import Derived.Test.YthmobfelhpbllaaGreatDoorKZb
namespace Go.Proofs.YthmobfelhpbllaaGreatDoor.Bm
open Go.ChangeShapes Go.WideShapes Go.ChangeAt Go.RowKit Go.Maps
set_option linter.unusedSimpArgs false
set_option linter.unusedVariables false
set_option maxRecDepth 8000
theorem cellsI:Tryz.prog.cellsOf 3=1:=by kernel_rfl
theorem cellsB:Tryz.prog.cellsOf 5=1:=by kernel_rfl
theorem cell_of {P:Program} {t n:Nat} {cs:List Value} {c v:Value} (hc:P.cellsOf t=1) (h:(cs.drop n).take (P.cellsOf t)=[v]) (hn:cs[n]? =some c):c=v:=by
 rw [hc] at h
 have e:((cs.drop n).take 1)[0]? =some c:=by rw [List.getElem?_take,if_pos (by omega),List.getElem?_drop];simpa using hn
 rw [h] at e
 simpa using e.symm
theorem lt_of_cell {w:World} {a:Addr} {v:Value} (h:w.cell? a=some v):a.block<w.heap.size:=by
 unfold World.cell? at h
 by_cases c:a.block<w.heap.size
 . exact c
 . rw [Array.getElem?_eq_none (by omega)] at h
   simp at h
def IsByts (w:World) (p:Option Addr) (n:Nat) (A:Nat->Int):Prop:= ∀ i,i<n-> ∃ b o,p=some ⟨b,o,none⟩/\b<w.heap.size/\w.cell? ⟨b,o+i,none⟩=some (.int .u8 (A i))/\(Lit.int .u8 (A i)).wf=true
theorem byts_src {w:World} {p:Option Addr} {n:Nat} {B:Nat->Int} (h:IsByts w p n B):Src 1 eB w p ((List.range n).map B)/\Byt ((List.range n).map B):=by
 refine ⟨fun i hi=> ?_,fun x hx=> ?_⟩
 . have hi':i<n:=by simpa using hi
   obtain ⟨b,o,e,l,c0,_⟩:=h i hi'
   refine ⟨b,o,e,l,fun j hj=> ?_⟩
   obtain rfl:j=0:=by omega
   have e2:((List.range n).map B)[i]=B i:=by simp
   rw [e2,Nat.mul_one,Nat.add_zero]
   exact c0
 . obtain ⟨i,hi,rfl⟩:=List.mem_map.1 hx
   obtain ⟨_,_,_,_,_,hw⟩:=h i (List.mem_range.1 hi)
   simp [Lit.wf,IntKind.min,IntKind.max,IntKind.signed,IntKind.bits] at hw
   omega
end Go.Proofs.YthmobfelhpbllaaGreatDoor.Bm
namespace Go.Proofs.YthmobfelhpbllaaGreatDoor.Bm
set_option linter.unusedSimpArgs false
set_option linter.unusedVariables false
set_option maxRecDepth 8000
def insU (n:Int):List Int->List Int
 | [] => [n]
 | x :: r => if n ≤ x then (if n < x then n :: x :: r else x :: r) else x :: insU n r
theorem insU_mem (n y:Int): ∀ l,y∈insU n l↔y=n\/y∈l
 | [] => by simp [insU]
 | x :: r => by
  unfold insU
  by_cases c:n<=x
  . rw [if_pos c]
    by_cases d:n<x
    . rw [if_pos d];simp
    . rw [if_neg d]
      have:n=x:=by omega
      subst this
      simp
  . rw [if_neg c,List.mem_cons,insU_mem n y r,List.mem_cons]
    constructor
    . rintro (h | h | h)
      . exact Or.inr (Or.inl h)
      . exact Or.inl h
      . exact Or.inr (Or.inr h)
    . rintro (h | h | h)
      . exact Or.inr (Or.inl h)
      . exact Or.inl h
      . exact Or.inr (Or.inr h)
def Inc (l:List Int):Prop:=l.Pairwise (· < ·)
theorem insU_inc (n:Int): ∀ l,Inc l->Inc (insU n l)
 | [], _ => by unfold insU Inc; simp
 | x :: r, h => by
  have hx:=(List.pairwise_cons.1 h).1
  have hr:Inc r:=(List.pairwise_cons.1 h).2
  unfold insU
  by_cases c:n<=x
  . rw [if_pos c]
    by_cases d:n<x
    . rw [if_pos d]
      refine List.pairwise_cons.2 ⟨fun y hy=> ?_,h⟩
      rcases List.mem_cons.1 hy with e | e
      . subst e;exact d
      . have:=hx y e;omega
    . rw [if_neg d];exact h
  . rw [if_neg c]
    refine List.pairwise_cons.2 ⟨fun y hy=> ?_,insU_inc n r hr⟩
    rcases (insU_mem n y r).1 hy with e | e
    . omega
    . exact hx y e
def insAll (l o:List Int):List Int:=l.foldl (fun o n=>insU n o) o
theorem insAll_mem (y:Int): ∀ (l o:List Int),y∈insAll l o↔y∈l\/y∈o
 | [], o => by simp [insAll]
 | n :: l, o => by
  show y∈insAll l (insU n o)↔_
  rw [insAll_mem y l (insU n o),insU_mem,List.mem_cons]
  constructor
  . rintro (h | h | h)
    . exact Or.inl (Or.inr h)
    . exact Or.inl (Or.inl h)
    . exact Or.inr h
  . rintro ((h | h) | h)
    . exact Or.inr (Or.inl h)
    . exact Or.inl h
    . exact Or.inr (Or.inr h)
theorem insAll_inc: ∀ (l o:List Int),Inc o->Inc (insAll l o)
 | [], o, h => h
 | n :: l, o, h => insAll_inc l (insU n o) (insU_inc n o h)
theorem insU_len (n:Int): ∀ l,(insU n l).length<=l.length+1
 | [] => by simp [insU]
 | x :: r => by
  unfold insU
  have:=insU_len n r
  split
  . split <;> simp
  . simp;omega
theorem insAll_len: ∀ (l o:List Int),(insAll l o).length<=o.length+l.length
 | [], o => by simp [insAll]
 | n :: l, o => by
  have h1:=insAll_len l (insU n o)
  have h2:=insU_len n o
  show (insAll l (insU n o)).length<=_
  rw [List.length_cons];omega
theorem insAll_app (l m o:List Int):insAll (l++m) o=insAll m (insAll l o):=by unfold insAll;rw [List.foldl_append]
def endsR (L:List (Int × Int)):List Int:=L.flatMap (fun r=>[r.1,r.2])
theorem endsR_len (L:List (Int × Int)):(endsR L).length=L.length*2:=by
 induction L with
 | nil => rfl
 | cons r L ih => unfold endsR at *; rw [List.flatMap_cons, List.length_append, ih, List.length_cons]; simp; omega
theorem endsR_mem {L:List (Int × Int)} {r:Int × Int} (h:r∈L):r.1∈endsR L/\r.2∈endsR L:=by
 unfold endsR
 exact ⟨List.mem_flatMap.2 ⟨r,h,by simp⟩,List.mem_flatMap.2 ⟨r,h,by simp⟩⟩
def endsV (L A:List (Int × Int)):List Int:=insAll (endsR L++endsR A) []
theorem endsV_inc (L A:List (Int × Int)):Inc (endsV L A):=insAll_inc _ _ List.Pairwise.nil
theorem endsV_len (L A:List (Int × Int)):(endsV L A).length<=L.length*2+A.length*2:=by
 have:=insAll_len (endsR L++endsR A) []
 rw [List.length_append,endsR_len,endsR_len] at this
 simpa [endsV] using this
theorem endsV_mem {L A:List (Int × Int)} {r:Int × Int} (h:r∈L\/r∈A):r.1∈endsV L A/\r.2∈endsV L A:=by
 unfold endsV
 rw [insAll_mem,insAll_mem,List.mem_append,List.mem_append]
 rcases h with h | h
 . have:=endsR_mem h;exact ⟨Or.inl (Or.inl this.1),Or.inl (Or.inl this.2)⟩
 . have:=endsR_mem h;exact ⟨Or.inl (Or.inr this.1),Or.inl (Or.inr this.2)⟩
theorem has_flat {E:List Int} (hE:Inc E) {L:List (Int × Int)} (hL: ∀ r∈L,r.1∈E/\r.2∈E) {i:Nat} (hi:i+1<E.length) {n:Int} (h1:E[i]'(by omega)<=n) (h2:n<E[i+1]):Has L n↔Has L (E[i]'(by omega)):=by
 have pw:=List.pairwise_iff_getElem.1 hE
 have cmp: ∀ e∈E,(e<=n↔e<=E[i]'(by omega)):=fun e he=>by
  obtain ⟨j,hj,rfl⟩:=List.getElem_of_mem he
  constructor
  . intro h
    by_cases c:j<=i
    . by_cases d:j=i
      . subst d;exact Int.le_refl _
      . have:=pw j i hj (by omega) (by omega);omega
    . by_cases d:j=i+1
      . subst d;omega
      . have:=pw (i+1) j hi hj (by omega);omega
  . intro h;omega
 constructor
 . rintro ⟨r,hr,a,b⟩
   have:=hL r hr
   have c1:=cmp r.1 this.1
   have c2:=cmp r.2 this.2
   exact ⟨r,hr,c1.1 a,by omega⟩
 . rintro ⟨r,hr,a,b⟩
   have:=hL r hr
   have c1:=cmp r.1 this.1
   have c2:=cmp r.2 this.2
   exact ⟨r,hr,c1.2 a,by omega⟩
open Classical in
noncomputable def lessV (L A:List (Int × Int)) (E:List Int):Nat->List (Int × Int)
 | 0 => []
 | k + 1 => pieceV (lessV L A E k) (E.getD k 0) (E.getD (k + 1) 0) (decide (Has L (E.getD k 0) ∧ ¬ Has A (E.getD k 0)))
theorem getD_is (E:List Int) {k:Nat} (h:k<E.length):E.getD k 0=E[k]:=by rw [List.getD_eq_getElem?_getD,List.getElem?_eq_getElem h];rfl
theorem lessV_inv (L A:List (Int × Int)): ∀ k,k<(endsV L A).length->Can (lessV L A (endsV L A) k)/\(∀ q∈lessV L A (endsV L A) k,q.2<=(endsV L A).getD k 0)/\ ∀ n,Has (lessV L A (endsV L A) k) n↔(Has L n/\ ¬ Has A n)/\n<(endsV L A).getD k 0
 | 0, h => by
  refine ⟨can_nil,fun q hq=>absurd hq List.not_mem_nil,fun n=>⟨fun q=>absurd q (has_nil _),fun q=> ?_⟩⟩
  obtain ⟨⟨⟨r,hr,a,b⟩,_⟩,c⟩:=q
  have m:=(endsV_mem (A:=A) (Or.inl hr)).1
  obtain ⟨j,hj,e⟩:=List.getElem_of_mem m
  rw [getD_is _ h] at c
  by_cases z:j=0
  . subst z;omega
  . have:=List.pairwise_iff_getElem.1 (endsV_inc L A) 0 j h hj (by omega)
    omega
 | k + 1, h => by
  have hk:k<(endsV L A).length:=by omega
  obtain ⟨i1,i2,i3⟩:=lessV_inv L A k hk
  have lt:(endsV L A).getD k 0<(endsV L A).getD (k+1) 0:=by
   rw [getD_is _ hk,getD_is _ h]
   exact List.pairwise_iff_getElem.1 (endsV_inc L A) k (k+1) hk h (by omega)
  unfold lessV
  refine piece_any i1 i2 lt i3 (fun n h1 h2=> ?_)
  rw [getD_is _ hk] at h1 |-
  rw [getD_is _ h] at h2
  rw [has_flat (endsV_inc L A) (fun r hr=>endsV_mem (Or.inl hr)) h h1 h2,has_flat (L:=A) (endsV_inc L A) (fun r hr=>endsV_mem (Or.inr hr)) h h1 h2]
  simp
theorem lessV_all (L A:List (Int × Int)):Can (lessV L A (endsV L A) ((endsV L A).length-1))/\ ∀ n,Has (lessV L A (endsV L A) ((endsV L A).length-1)) n↔Has L n/\ ¬ Has A n:=by
 by_cases h:(endsV L A).length=0
 . rw [h]
   refine ⟨can_nil,fun n=>⟨fun q=>absurd q (has_nil _),fun q=> ?_⟩⟩
   obtain ⟨⟨r,hr,_⟩,_⟩:=q
   have m:=(endsV_mem (A:=A) (Or.inl hr)).1
   rw [List.eq_nil_of_length_eq_zero h] at m
   exact absurd m List.not_mem_nil
 . obtain ⟨i1,i2,i3⟩:=lessV_inv L A ((endsV L A).length-1) (by omega)
   refine ⟨i1,fun n=>(i3 n).trans ⟨fun q=>q.1,fun q=>⟨q,?_⟩⟩⟩
   obtain ⟨⟨r,hr,a,b⟩,_⟩:=q
   have m:=(endsV_mem (A:=A) (Or.inl hr)).2
   obtain ⟨j,hj,e⟩:=List.getElem_of_mem m
   rw [getD_is _ (by omega)]
   by_cases z:j=(endsV L A).length-1
   . subst z;omega
   . have:=List.pairwise_iff_getElem.1 (endsV_inc L A) j ((endsV L A).length-1) hj (by omega) (by omega)
     omega
theorem pieceV_len (out:List (Int × Int)) (a b:Int) (is:Bool):(pieceV out a b is).length<=out.length+1:=by
 cases is with
 | false => rw [piece_no]; omega
 | true =>
  rcases nil_or_snoc out with e | ⟨M,q,e⟩
  . subst e;rw [piece_first];simp
  . subst e
    by_cases d:q.2=a
    . subst d;rw [piece_meet];simp
    . rw [piece_new _ _ _ _ d];simp
theorem lessV_len (L A:List (Int × Int)) (E:List Int): ∀ k,(lessV L A E k).length<=k
 | 0 => by simp [lessV]
 | k + 1 => by
  have h2:=lessV_len L A E k
  unfold lessV
  exact Nat.le_trans (pieceV_len _ _ _ _) (by omega)
def stI (n:Int):List Int × Bool->Int->List Int × Bool:=fun s x =>
 let d:=if x=n then true else s.2
 if d=false/\n<x then (s.1++[n]++[x],true) else (s.1++[x],d)
def goI (n:Int) (l:List Int):List Int × Bool:=l.foldl (stI n) ([],false)
theorem stI_done (n:Int): ∀ (l a:List Int),l.foldl (stI n) (a,true)=(a++l,true)
 | [], a => by simp
 | x :: l, a => by
  rw [List.foldl_cons]
  have:stI n (a,true) x=(a++[x],true):=by unfold stI;by_cases c:x=n <;> simp [c]
  rw [this,stI_done n l];simp
theorem goI_is (n:Int): ∀ (l a:List Int),Inc l->(if (l.foldl (stI n) (a,false)).2=true then (l.foldl (stI n) (a,false)).1 else (l.foldl (stI n) (a,false)).1++[n])=a++insU n l
 | [], a, _ => by simp [insU]
 | x :: l, a, h => by
  rw [List.foldl_cons]
  have hr:Inc l:=(List.pairwise_cons.1 h).2
  rcases Int.lt_trichotomy n x with c | c | c
  . have:stI n (a,false) x=(a++[n]++[x],true):=by
     have d: ¬ x=n:=by omega
     unfold stI
     simp [c,d]
    rw [this,stI_done,if_pos rfl]
    unfold insU
    rw [if_pos (by omega),if_pos c];simp
  . subst c
    have:stI n (a,false) n=(a++[n],true):=by unfold stI;simp
    rw [this,stI_done,if_pos rfl]
    unfold insU
    rw [if_pos (by omega),if_neg (by omega)];simp
  . have:stI n (a,false) x=(a++[x],false):=by
     have d: ¬ x=n:=by omega
     have e: ¬ n<x:=by omega
     unfold stI
     simp [d,e]
    rw [this,goI_is n l (a++[x]) hr]
    rw [show insU n (x::l)=x::insU n l by rw [insU,if_neg (by omega)]]
    simp
theorem goI_end (n:Int) (l:List Int) (h:Inc l):insU n l=if (goI n l).2=true then (goI n l).1 else (goI n l).1++[n]:=by
 have:=goI_is n l [] h
 unfold goI
 rw [this];simp
theorem goI_next (n:Int) (l:List Int) (i:Nat) (h:i<l.length):goI n (l.take (i+1))=stI n (goI n (l.take i)) l[i]:=by
 unfold goI
 rw [take_next l i h,List.foldl_append];rfl
theorem goI_len (n:Int): ∀ (l:List Int) (s:List Int × Bool),(l.foldl (stI n) s).1.length<=s.1.length+2*l.length
 | [], s => by simp
 | x :: l, s => by
  rw [List.foldl_cons]
  have h1:=goI_len n l (stI n s x)
  have h2:(stI n s x).1.length<=s.1.length+2:=by
   unfold stI
   by_cases c:x=n <;> by_cases d:s.2=false/\n<x <;> simp [c,d]
  rw [List.length_cons];omega
end Go.Proofs.YthmobfelhpbllaaGreatDoor.Bm
namespace Go.Proofs.YthmobfelhpbllaaGreatDoor.Bm
open Go.ChangeShapes Go.WideShapes Go.ChangeAt Go.RowKit Go.Maps
set_option linter.unusedSimpArgs false
set_option linter.unusedVariables false
set_option maxRecDepth 8000
theorem stI_eq (n:Int) (s:List Int × Bool):stI n s n=(s.1++[n],true):=by unfold stI;simp
theorem stI_on {n x:Int} (s:List Int) (h: ¬ x=n):stI n (s,true) x=(s++[x],true):=by unfold stI;simp [h]
theorem stI_in {n x:Int} (s:List Int) (h: ¬ x=n) (k:n<x):stI n (s,false) x=(s++[n]++[x],true):=by unfold stI;simp [h,k]
theorem stI_no {n x:Int} (s:List Int) (h: ¬ x=n) (k: ¬ n<x):stI n (s,false) x=(s++[x],false):=by unfold stI;simp [h,k]
def doneE (L A:List (Int × Int)) (i k:Nat):List Int:=if i=0 then endsR (L.take k) else if i=1 then endsR L++endsR (A.take k) else endsR L++endsR A
theorem endsR_next {L:List (Int × Int)} {k:Nat} (h:k<L.length):endsR (L.take (k+1))=endsR (L.take k)++[L[k].1,L[k].2]:=by
 unfold endsR;rw [take_next L k h,List.flatMap_append];simp
set_option maxHeartbeats 8000000 in
theorem ends_any (lo1 lo2:Nat) (v u:Value) (L A:List (Int × Int)) (hL:L.length<=100) (hA:A.length<=100) (w:World) (H:RL w lo1 v L) (K:RL w lo2 u A) :
 Calls Tryz.prog 120 #[v,u] w fun e w'=> ∃ v',e=.returned v'/\IL w' w.heap.size v' (endsV L A)/\Below w.heap.size w w':=by
 have TWO: ∀ i,i<2-> ∃ (p:Option Addr) (c:Nat) (M:List (Int × Int)),(if i=0 then v else u)=.slice p M.length c/\M.length<=100/\(∀ k,doneE L A i k=(if i=0 then [] else endsR L)++endsR (M.take k))/\doneE L A (i+1) 0=(if i=0 then [] else endsR L)++endsR M/\ ∀ q (hq:q<M.length),∃ g o,p=some ⟨g,o,none⟩/\g<w.heap.size/\ ∀ j,j<2->w.cell? ⟨g,o+q*2+j,none⟩=(eR M[q])[j]? :=fun i hi=>by
  have hi':i=0\/i=1:=by omega
  rcases hi' with rfl | rfl
  . obtain ⟨p,c,hv,_,_,rd⟩:=H.form
    exact ⟨p,c,L,hv,hL,fun k=>by simp [doneE],by simp [doneE,endsR],fun q hq=>by obtain ⟨g,o,e,_,l,r⟩:=rd q hq;exact ⟨g,o,e,l,r⟩⟩
  . obtain ⟨p,c,hv,_,_,rd⟩:=K.form
    exact ⟨p,c,A,hv,hA,fun k=>by simp [doneE],by simp [doneE],fun q hq=>by obtain ⟨g,o,e,_,l,r⟩:=rd q hq;exact ⟨g,o,e,l,r⟩⟩
 have HT:Hid _:=TWO
 obtain ⟨p1,c1,hv1,_,_,_⟩:=H.form
 obtain ⟨p2,c2,hv2,_,_,_⟩:=K.form
 generalize L.length=n1 at hv1
 generalize A.length=n2 at hv2
 subst hv1
 subst hv2
 have E0:Hid (∀ i k,i<=2->(doneE L A i k).length<=400):=fun i k hi=>by
  show _<=_
  unfold doneE
  split
  . rw [endsR_len,List.length_take];omega
  . split
    . rw [List.length_append,endsR_len,endsR_len,List.length_take];omega
    . rw [List.length_append,endsR_len,endsR_len];omega
 have EV:Hid (endsV L A=insAll (doneE L A 2 0) []):=rfl
 obtain ⟨RES,hRES⟩: ∃ R,endsV L A=R:=⟨_,rfl⟩
 rw [hRES] at EV |-
 clear TWO H K hL hA hRES
 have B0:Hid (Below w.heap.size w ((w.alloc (.cells #[] 3)).alloc (.cells #[.slice p1 n1 c1,.slice p2 n2 c2] 79))/\Blk ((w.alloc (.cells #[] 3)).alloc (.cells #[.slice p1 n1 c1,.slice p2 n2 c2] 79)) (w.heap.size+1) [.slice p1 n1 c1,.slice p2 n2 c2] 79/\IL ((w.alloc (.cells #[] 3)).alloc (.cells #[.slice p1 n1 c1,.slice p2 n2 c2] 79)) w.heap.size (.slice (some ⟨w.heap.size,0,none⟩) 0 0) []):=by
  refine ⟨below_new (Go.Joins.below_alloc1 _ _) _,?_,?_⟩
  . have:=Blk.made (w.alloc (.cells #[] 3)) [.slice p1 n1 c1,.slice p2 n2 c2] 79
    rw [World.size_alloc] at this;exact this
  . exact ((ol_ll eI_len (ol_made (T:=3) w w.heap.size (Nat.le_refl _))).below (Go.Joins.below_alloc1 _ _))
 go_enter Tryz.func120,Tryz.ntmps120
 go_wp2_with fail
 generalize (w.alloc (.cells #[] 3)).alloc (.cells #[.slice p1 n1 c1,.slice p2 n2 c2] 79)=w1 at B0 |-
 generalize Value.slice (some ⟨w.heap.size,0,none⟩) 0 0=v5 at B0 |-
 obtain ⟨tb,htb⟩: ∃ tb,w.heap.size+1=tb:=⟨_,rfl⟩
 rw [htb] at B0 |-
 have HTB:Hid (w.heap.size+1=tb):=htb
 clear htb
 go_loopw [5,21] (fun v x W=> ∃ i:Nat,i<=2/\x=.int .i64 i/\Hid (IL W w.heap.size v (insAll (doneE L A i 0) []))/\Hid (Below w1.heap.size w1 W)) (fun _ x _=>2-(Go.RowKit.intOf x).toNat)
 case atStart=>exact ⟨0,by omega,rfl,(by show IL w1 w.heap.size v5 (insAll (doneE L A 0 0) []);exact B0.out.2.2),Below.refl _ _⟩
 case round =>
  obtain ⟨i,hi,rfl,JL,JB⟩:=hrel
  by_cases ci:i<2
  rotate_left
  . obtain rfl:i=2:=by omega
    have d1:decide ((2:Int)<2)=false:=by decide
    rw [show ((2:Nat):Int)=(2:Int) from rfl]
    go_wp2_with fail
    go_ret
    exact ⟨u5,rfl,by rw [EV.out];exact JL.out,below_then B0.out.1 JB.out⟩
  have d1:decide ((i:Int)<2)=true:=decide_eq_true (by omega)
  have d0:decide ((i:Int)<0)=false:=by simp
  obtain ⟨pm,cm,M,hvm,M9,hD,hD2,rd⟩:=HT.out i ci
  have y0:wr.cell? ⟨tb,i,none⟩=some (.slice pm M.length cm):=by
   rw [((B0.out.2.1).below JB.out).cell i,<- hvm]
   have hi':i=0\/i=1:=by omega
   rcases hi' with rfl | rfl <;> rfl
  obtain ⟨pre,hpre⟩: ∃ pre,(if i=0 then [] else endsR L)=pre:=⟨_,rfl⟩
  rw [hpre] at hD2
  have HD:Hid (∀ k,doneE L A i k=pre++endsR (M.take k)):=fun k=>by rw [hD k,hpre]
  have HD2:Hid (doneE L A (i+1) 0=pre++endsR M):=hD2
  have RD:Hid (∀ q (hq:q<M.length),∃ g o,pm=some ⟨g,o,none⟩/\g<w.heap.size/\ ∀ j,j<2->w.cell? ⟨g,o+q*2+j,none⟩=(eR M[q])[j]?):=rd
  obtain ⟨m,hm⟩: ∃ m,M.length=m:=⟨_,rfl⟩
  have HM:Hid (M.length=m):=hm
  rw [hm] at y0 M9
  have JL1:Hid (IL wr w.heap.size u5 (insAll (pre++endsR (M.take 0)) [])):=by rw [<- HD.out 0];exact JL.out
  clear hvm hD hD2 rd hm hpre JL
  go_wp2_with fail
  clear y0
  go_loopw [5,27] (fun v x W=> ∃ k:Nat,k<=m/\x=.int .i64 k/\Hid (IL W w.heap.size v (insAll (pre++endsR (M.take k)) []))/\Hid (Below w1.heap.size w1 W)) (fun _ x _=>m-(Go.RowKit.intOf x).toNat)
  case atStart=>exact ⟨0,by omega,rfl,JL1,JB⟩
  case round =>
   clear JL1 JB
   obtain ⟨k,hk,rfl,JL,JB⟩:=hrel
   by_cases ck:k<m
   rotate_left
   . obtain rfl:k=m:=by omega
     have dk:decide ((k:Int)<(k:Int))=false:=by simp
     have JN:Hid (IL wr w.heap.size u5 (insAll (doneE L A (i+1) 0) [])):=by
      rw [HD2.out]
      have:=JL.out
      rw [<- HM.out,List.take_length] at this
      exact this
     clear JL
     go_wp2_with fail
     go_roundw
     case rel=>exact ⟨i+1,by omega,by go_num,JN,JB⟩
     case measure=>simp [Go.RowKit.intOf];omega
   have dk:decide ((k:Int)<(m:Int))=true:=decide_eq_true (by omega)
   have d0k:decide ((k:Int)<0)=false:=by simp
   have kS:k<M.length:=by rw [HM.out];exact ck
   have WB:Hid (Below w.heap.size w wr):=below_then B0.out.1 JB.out
   obtain ⟨g,og,rfl,lg,rc⟩:=RD.out k kS
   have y0:wr.cell? ⟨g,og+k*2,none⟩=some (.int .i64 M[k].1):=(World.cell?_of_block (WB.out.block g lg)).trans (rc 0 (by omega))
   have y1:wr.cell? ⟨g,og+k*2+1,none⟩=some (.int .i64 M[k].2):=(World.cell?_of_block (WB.out.block g lg)).trans (rc 1 (by omega))
   have PL:Hid ((pre++endsR (M.take (k+1))).length<=400):=by rw [<- HD.out (k+1)];exact E0.out i (k+1) (by omega)
   have PN:Hid (pre++endsR (M.take (k+1))=(pre++endsR (M.take k))++[M[k].1,M[k].2]):=by show _=_;rw [endsR_next kS,List.append_assoc]
   obtain ⟨P0,hP0⟩: ∃ P0,pre++endsR (M.take k)=P0:=⟨_,rfl⟩
   rw [hP0] at JL PN
   generalize M[k].1=a at y0 PN
   generalize M[k].2=b at y1 PN
   have JL0:Hid (IL (((wr.alloc (.cells #[.int .i64 a,.int .i64 b] 56))).alloc (.cells #[.int .i64 a,.int .i64 b] 3)) w.heap.size u5 (insAll (P0++[a,b].take 0) [])):=by
    show IL _ w.heap.size u5 (insAll (P0++[]) [])
    rw [List.append_nil];exact (JL.out.below (Go.Joins.below_alloc1 _ _)).below (Go.Joins.below_alloc1 _ _)
   have JB0:Hid (Below w1.heap.size w1 ((wr.alloc (.cells #[.int .i64 a,.int .i64 b] 56)).alloc (.cells #[.int .i64 a,.int .i64 b] 3))):=below_new (below_new JB.out _) _
   have TB:Hid (Blk ((wr.alloc (.cells #[.int .i64 a,.int .i64 b] 56)).alloc (.cells #[.int .i64 a,.int .i64 b] 3)) (wr.heap.size+1) [.int .i64 a,.int .i64 b] 3):=by
    have:=Blk.made (wr.alloc (.cells #[.int .i64 a,.int .i64 b] 56)) [.int .i64 a,.int .i64 b] 3
    rw [World.size_alloc] at this;exact this
   clear rc lg hP0 JL JB WB
   go_wp2_with fail
   clear y0 y1
   generalize (wr.alloc (.cells #[.int .i64 a,.int .i64 b] 56)).alloc (.cells #[.int .i64 a,.int .i64 b] 3)=w2 at JL0 JB0 TB |-
   generalize wr.heap.size+1=eb at TB |-
   generalize wr.heap.size=xb at *
   go_loopw [5,37] (fun v x W=> ∃ q:Nat,q<=2/\x=.int .i64 q/\Hid (IL W w.heap.size v (insAll (P0++[a,b].take q) []))/\Hid (Below w1.heap.size w1 W)/\Hid (Blk W eb [.int .i64 a,.int .i64 b] 3)) (fun _ x _=>2-(Go.RowKit.intOf x).toNat)
   case atStart=>exact ⟨0,by omega,rfl,JL0,JB0,TB⟩
   case round =>
    clear JL0 JB0 TB
    obtain ⟨q,hq,rfl,JL,JB,TB⟩:=hrel
    by_cases cq:q<2
    rotate_left
    . obtain rfl:q=2:=by omega
      have dq:decide ((2:Int)<2)=false:=by decide
      have JN:Hid (IL wr w.heap.size u5 (insAll (pre++endsR (M.take (k+1))) [])):=by rw [PN.out];exact JL.out
      clear JL
      rw [show ((2:Nat):Int)=(2:Int) from rfl]
      go_wp2_with fail
      go_roundw
      case rel=>exact ⟨k+1,by omega,by go_num,JN,JB⟩
      case measure=>simp [Go.RowKit.intOf];omega
    have dq:decide ((q:Int)<2)=true:=decide_eq_true (by omega)
    have d0q:decide ((q:Int)<0)=false:=by simp
    obtain ⟨n,hn⟩: ∃ n,[a,b][q]? =some n:=by
     have:q=0\/q=1:=by omega
     rcases this with rfl | rfl
     . exact ⟨a,rfl⟩
     . exact ⟨b,rfl⟩
    have yq:wr.cell? ⟨eb,q,none⟩=some (.int .i64 n):=by
     rw [TB.out.cell q]
     have:q=0\/q=1:=by omega
     rcases this with rfl | rfl
     . cases hn;rfl
     . cases hn;rfl
    have NP:Hid (insAll (P0++[a,b].take (q+1)) []=insU n (insAll (P0++[a,b].take q) [])):=by
     show _=_
     have e:[a,b].take (q+1)=[a,b].take q++[n]:=by
      have:q=0\/q=1:=by omega
      rcases this with rfl | rfl
      . cases hn;rfl
      . cases hn;rfl
     rw [e,<- List.append_assoc,insAll_app];rfl
    have OL9:Hid ((insAll (P0++[a,b].take q) []).length<=400/\Inc (insAll (P0++[a,b].take q) [])):=by
     refine ⟨?_,insAll_inc _ _ List.Pairwise.nil⟩
     have h1:=insAll_len (P0++[a,b].take q) []
     have h2:=PL.out
     rw [PN.out] at h2
     simp at h1 h2
     omega
    generalize insAll (P0++[a,b].take q) []=O at JL NP OL9
    obtain ⟨po,co,hvo,_,_,rdo⟩:=JL.out.form
    have RO:Hid (∀ s (hs:s<O.length),∃ g o,po=some ⟨g,o,none⟩/\w.heap.size<=g/\g<wr.heap.size/\ ∀ j,j<1->wr.cell? ⟨g,o+s*1+j,none⟩=(eI O[s])[j]?):=rdo
    obtain ⟨no,hno⟩: ∃ no,O.length=no:=⟨_,rfl⟩
    have HNO:Hid (O.length=no):=hno
    have no9:no<=400:=by rw [<- hno];exact OL9.out.1
    rw [hno] at hvo
    subst hvo
    clear rdo hno hn JL
    go_wp2_with fail
    clear yq
    have J0:Hid (OI (wr.alloc (.cells #[] 3)) wr.heap.size (.slice (some ⟨wr.heap.size,0,none⟩) 0 0) (goI n (O.take 0)).1/\Below wr.heap.size wr (wr.alloc (.cells #[] 3))):=⟨ol_made wr _ (Nat.le_refl _),Go.Joins.below_alloc1 _ _⟩
    generalize wr.alloc (.cells #[] 3)=w3 at J0 |-
    generalize Value.slice (some ⟨wr.heap.size,0,none⟩) 0 0=v12 at J0 |-
    generalize wr=wb at *
    go_loopw [12,13,44] (fun v d x W=> ∃ s:Nat,s<=no/\x=.int .i64 s/\d=.bool (goI n (O.take s)).2/\Hid (OI W wb.heap.size v (goI n (O.take s)).1/\Below wb.heap.size wb W)) (fun _ _ x _=>no-(Go.RowKit.intOf x).toNat)
    case atStart=>exact ⟨0,by omega,rfl,rfl,J0⟩
    case round =>
     clear J0
     obtain ⟨s,hs,rfl,rfl,J⟩:=hrel
     have SL:Hid ((goI n (O.take s)).1.length<=1000):=by
      have:=goI_len n (O.take s) ([],false)
      rw [List.length_take] at this
      show _<=_
      unfold goI
      simp at this
      omega
     by_cases cs:s<no
     rotate_left
     . obtain rfl:s=no:=by omega
       have ds:decide ((s:Int)<(s:Int))=false:=by simp
       have e9:O.take s=O:=by rw [<- HNO.out,List.take_length]
       rw [e9] at J SL |-
       have EN:=goI_end n O OL9.out.2
       generalize hst:goI n O=st at J SL EN |-
       obtain ⟨S1,S2⟩:=st
       cases S2 with
       | true =>
        rw [if_pos rfl] at EN
        have JN:Hid (IL wr w.heap.size u12 (insAll (P0++[a,b].take (q+1)) [])/\Below w1.heap.size w1 wr/\Blk wr eb [.int .i64 a,.int .i64 b] 3):=by
         rw [NP.out,EN]
         exact ⟨(ol_ll eI_len J.out.1).low (Nat.le_trans B0.out.1.size JB.out.size),below_then JB.out J.out.2,TB.out.below J.out.2⟩
        clear J EN SL hst e9
        go_wp2_with fail
        go_roundw
        case rel=>exact ⟨q+1,by omega,by go_num,JN.out.1,JN.out.2.1,JN.out.2.2⟩
        case measure=>simp [Go.RowKit.intOf];omega
       | false =>
        rw [if_neg (by simp)] at EN
        have J1:=J.out
        obtain ⟨v1,X1,r1,ho1,hg1,_⟩:=app_row eI_len eI_one (by decide) Tryz.underlying22 infoI rfl (by decide) wb.heap.size u12 S1 n (by have h:S1.length<=1000:=SL.out;simp;omega) wr J1.1 J1.2.size
        have J2:OI X1 wb.heap.size v1 (S1++[n])/\Below wb.heap.size wb X1:=⟨ho1,(below_new J1.2 _).grown hg1 (by rw [World.size_alloc];have:=J1.2.size;omega) (fun g e=>(row_lt J1.1 g e).1)⟩
        clear ho1 hg1
        have JN:Hid (IL X1 w.heap.size v1 (insAll (P0++[a,b].take (q+1)) [])/\Below w1.heap.size w1 X1/\Blk X1 eb [.int .i64 a,.int .i64 b] 3):=by
         rw [NP.out,EN]
         exact ⟨(ol_ll eI_len J2.1).low (Nat.le_trans B0.out.1.size JB.out.size),below_then JB.out J2.2,TB.out.below J2.2⟩
        clear J J1 J2 EN SL hst e9
        go_wp2_with (at_builtin;refine wpList_app rfl _ _ 22 rfl u12 (.slice (some ⟨wr.heap.size,0,none⟩) 1 1) rfl rfl v1 X1 r1 ?_)
        go_roundw
        case rel=>exact ⟨q+1,by omega,by go_num,JN.out.1,JN.out.2.1,JN.out.2.2⟩
        case measure=>simp [Go.RowKit.intOf];omega
     have ds:decide ((s:Int)<(no:Int))=true:=decide_eq_true (by omega)
     have d0s:decide ((s:Int)<0)=false:=by simp
     have sO:s<O.length:=by rw [HNO.out];exact cs
     obtain ⟨go,oo,rfl,_,lgo,rco⟩:=RO.out s sO
     have ys:wr.cell? ⟨go,oo+s,none⟩=some (.int .i64 O[s]):=(World.cell?_of_block (J.out.2.block go lgo)).trans (by have:=rco 0 (by omega);rw [Nat.mul_one,Nat.add_zero] at this;exact this)
     have NX:Hid (goI n (O.take (s+1))=stI n (goI n (O.take s)) O[s]):=goI_next n O s sO
     obtain ⟨T,hT⟩: ∃ T,goI n (O.take (s+1))=T:=⟨_,rfl⟩
     rw [hT] at NX
     have HTT:Hid (goI n (O.take (s+1))=T):=hT
     generalize goI n (O.take s)=st at J SL NX |-
     generalize O[s]=x at ys NX
     obtain ⟨S1,S2⟩:=st
     clear rco lgo hT
     have J1:=J.out
     by_cases cx:x=n
     . subst cx
       obtain ⟨v1,X1,r1,ho1,hg1,_⟩:=app_row eI_len eI_one (by decide) Tryz.underlying22 infoI rfl (by decide) wb.heap.size u12 S1 x (by have h:S1.length<=1000:=SL.out;simp;omega) wr J1.1 J1.2.size
       have J2:OI X1 wb.heap.size v1 (S1++[x])/\Below wb.heap.size wb X1:=⟨ho1,(below_new J1.2 _).grown hg1 (by rw [World.size_alloc];have:=J1.2.size;omega) (fun g e=>(row_lt J1.1 g e).1)⟩
       clear ho1 hg1
       have JN:Hid (T.2=true/\OI X1 wb.heap.size v1 T.1/\Below wb.heap.size wb X1):=by rw [NX.out,stI_eq];exact ⟨rfl,J2⟩
       have ex:(x==x)=true:=by simp
       clear J J1 J2 NX
       cases S2 with
       | true =>
        go_wp2_with (at_builtin;refine wpList_app rfl _ _ 22 rfl u12 (.slice (some ⟨wr.heap.size,0,none⟩) 1 1) rfl rfl v1 X1 r1 ?_)
        go_roundw
        case rel=>exact ⟨s+1,by omega,by go_num,by rw [HTT.out,JN.out.1],by rw [HTT.out];exact JN.out.2⟩
        case measure=>simp [Go.RowKit.intOf];omega
       | false =>
        go_wp2_with (at_builtin;refine wpList_app rfl _ _ 22 rfl u12 (.slice (some ⟨wr.heap.size,0,none⟩) 1 1) rfl rfl v1 X1 r1 ?_)
        go_roundw
        case rel=>exact ⟨s+1,by omega,by go_num,by rw [HTT.out,JN.out.1],by rw [HTT.out];exact JN.out.2⟩
        case measure=>simp [Go.RowKit.intOf];omega
     have ex:(x==n)=false:=by simp [cx]
     cases S2 with
     | true =>
      obtain ⟨v1,X1,r1,ho1,hg1,_⟩:=app_row eI_len eI_one (by decide) Tryz.underlying22 infoI rfl (by decide) wb.heap.size u12 S1 x (by have h:S1.length<=1000:=SL.out;simp;omega) wr J1.1 J1.2.size
      have J2:OI X1 wb.heap.size v1 (S1++[x])/\Below wb.heap.size wb X1:=⟨ho1,(below_new J1.2 _).grown hg1 (by rw [World.size_alloc];have:=J1.2.size;omega) (fun g e=>(row_lt J1.1 g e).1)⟩
      clear ho1 hg1
      have JN:Hid (T.2=true/\OI X1 wb.heap.size v1 T.1/\Below wb.heap.size wb X1):=by rw [NX.out,stI_on _ cx];exact ⟨rfl,J2⟩
      clear J J1 J2 NX
      go_wp2_with (at_builtin;refine wpList_app rfl _ _ 22 rfl u12 (.slice (some ⟨wr.heap.size,0,none⟩) 1 1) rfl rfl v1 X1 r1 ?_)
      go_roundw
      case rel=>exact ⟨s+1,by omega,by go_num,by rw [HTT.out,JN.out.1],by rw [HTT.out];exact JN.out.2⟩
      case measure=>simp [Go.RowKit.intOf];omega
     | false =>
      by_cases cn:n<x
      . have en:decide (n<x)=true:=decide_eq_true cn
        obtain ⟨v1,X1,r1,ho1,hg1,_⟩:=app_row eI_len eI_one (by decide) Tryz.underlying22 infoI rfl (by decide) wb.heap.size u12 S1 n (by have h:S1.length<=1000:=SL.out;simp;omega) wr J1.1 J1.2.size
        have J2:OI X1 wb.heap.size v1 (S1++[n])/\Below wb.heap.size wb X1:=⟨ho1,(below_new J1.2 _).grown hg1 (by rw [World.size_alloc];have:=J1.2.size;omega) (fun g e=>(row_lt J1.1 g e).1)⟩
        clear ho1 hg1
        obtain ⟨v2,X2,r2,ho2,hg2,_⟩:=app_row eI_len eI_one (by decide) Tryz.underlying22 infoI rfl (by decide) wb.heap.size v1 (S1++[n]) x (by have h:S1.length<=1000:=SL.out;simp;omega) X1 J2.1 J2.2.size
        have J3:OI X2 wb.heap.size v2 ((S1++[n])++[x])/\Below wb.heap.size wb X2:=⟨ho2,(below_new J2.2 _).grown hg2 (by rw [World.size_alloc];have:=J2.2.size;omega) (fun g e=>(row_lt J2.1 g e).1)⟩
        clear ho2 hg2
        have JN:Hid (T.2=true/\OI X2 wb.heap.size v2 T.1/\Below wb.heap.size wb X2):=by rw [NX.out,stI_in _ cx cn];exact ⟨rfl,J3⟩
        clear J J1 J2 J3 NX
        go_wp2_with (at_builtin;first | (refine wpList_app rfl _ _ 22 rfl u12 (.slice (some ⟨wr.heap.size,0,none⟩) 1 1) rfl rfl v1 X1 r1 ?_) | (refine wpList_app rfl _ _ 22 rfl v1 (.slice (some ⟨X1.heap.size,0,none⟩) 1 1) rfl rfl v2 X2 r2 ?_))
        go_roundw
        case rel=>exact ⟨s+1,by omega,by go_num,by rw [HTT.out,JN.out.1],by rw [HTT.out];exact JN.out.2⟩
        case measure=>simp [Go.RowKit.intOf];omega
      . have en:decide (n<x)=false:=decide_eq_false cn
        obtain ⟨v1,X1,r1,ho1,hg1,_⟩:=app_row eI_len eI_one (by decide) Tryz.underlying22 infoI rfl (by decide) wb.heap.size u12 S1 x (by have h:S1.length<=1000:=SL.out;simp;omega) wr J1.1 J1.2.size
        have J2:OI X1 wb.heap.size v1 (S1++[x])/\Below wb.heap.size wb X1:=⟨ho1,(below_new J1.2 _).grown hg1 (by rw [World.size_alloc];have:=J1.2.size;omega) (fun g e=>(row_lt J1.1 g e).1)⟩
        clear ho1 hg1
        have JN:Hid (T.2=false/\OI X1 wb.heap.size v1 T.1/\Below wb.heap.size wb X1):=by rw [NX.out,stI_no _ cx cn];exact ⟨rfl,J2⟩
        clear J J1 J2 NX
        go_wp2_with (at_builtin;refine wpList_app rfl _ _ 22 rfl u12 (.slice (some ⟨wr.heap.size,0,none⟩) 1 1) rfl rfl v1 X1 r1 ?_)
        go_roundw
        case rel=>exact ⟨s+1,by omega,by go_num,by rw [HTT.out,JN.out.1],by rw [HTT.out];exact JN.out.2⟩
        case measure=>simp [Go.RowKit.intOf];omega
end Go.Proofs.YthmobfelhpbllaaGreatDoor.Bm
namespace Go.Proofs.YthmobfelhpbllaaGreatDoor.Bm
open Go.ChangeShapes Go.WideShapes Go.ChangeAt Go.RowKit Go.Maps
set_option linter.unusedSimpArgs false
set_option linter.unusedVariables false
set_option maxRecDepth 8000
theorem wp_app {P:Program} {o:Oper} {a:Act} {w:World} {K:Act->World->Prop} {Q:Exit->Act->World->Prop} (s x:Operand) (t:TypeId)
 (ho:o.op=.call { callee:=.builtin .append,args:= #[s,x],argTypes:= #[t,t] }) (vs vx:Value) (hs:a.eval s=vs) (hx:a.eval x=vx) (v':Value) (w1:World)
 (hr:(Builtin.append_ #[t,t] o.type #[vs,vx]).run P w=.ok v' w1) (h:K (a.put o.dst v') w1):o.wp P a w K Q:=by
 unfold Oper.wp execOp
 simp only [ho,resolve,invoke,builtin,Sem.run_bind,Sem.run_pure,Result.andThen_ok,List.map_toArray,List.map_cons,List.map_nil,hs,hx,hr]
 exact h
theorem dec_is (p:Prop) (inst:Decidable p) (z:Bool) (h:z=true↔p): @decide p inst=z:=by
 cases z with
 | false => exact @decide_eq_false p inst (fun q => absurd (h.2 q) (by simp))
 | true => exact @decide_eq_true p inst (h.1 rfl)
structure LS (w:World) (pe:Option Addr) (ne ce:Nat) (E:List Int) (v:Value) (O:List (Int × Int)) (W:World):Prop where
 own:OR W w.heap.size v O
 ends:IL W 0 (.slice pe ne ce) E
 far: ∀ g,v.ownBlock=some g-> ∀ o,pe≠some ⟨g,o,none⟩
 bel:Below w.heap.size w W
theorem LS.below {w W W':World} {pe:Option Addr} {ne ce:Nat} {E:List Int} {v:Value} {O:List (Int × Int)} (H:LS w pe ne ce E v O W) (hb:Below W.heap.size W W'):LS w pe ne ce E v O W' :=
 ⟨row_below H.own hb,H.ends.below hb,H.far,below_then H.bel hb⟩
theorem ends_far {W W':World} {pe:Option Addr} {ne ce:Nat} {E:List Int} (H:IL W 0 (.slice pe ne ce) E) (hs:W.heap.size<=W'.heap.size) (hb: ∀ g,(∃ o,pe=some ⟨g,o,none⟩)->g<W.heap.size->W'.heap[g]? =W.heap[g]?):IL W' 0 (.slice pe ne ce) E:=by
 rcases H with h | ⟨g,o,c,hv,hc,l0,lg,h⟩
 . exact Or.inl h
 . refine Or.inr ⟨g,o,c,hv,hc,l0,Nat.lt_of_lt_of_le lg hs,fun i hi j hj=> ?_⟩
   have e:pe=some ⟨g,o,none⟩:=by cases hv;rfl
   rw [World.cell?_of_block (w:=W) (a:=⟨g,o+i*1+j,none⟩) (hb g ⟨o,e⟩ lg)];exact h i hi j hj
theorem LS.app {w W:World} {pe:Option Addr} {ne ce:Nat} {E:List Int} {v:Value} {O:List (Int × Int)} (H:LS w pe ne ce E v O W) (hO:O.length<=1048576) (x:Int × Int) :
 ∃ v' W2,(Builtin.append_ #[79,79] 79 #[v,.slice (some ⟨W.heap.size,0,none⟩) 1 1]).run Tryz.prog (W.alloc (.cells #[.int .i64 x.1,.int .i64 x.2] 56))=.ok v' W2/\LS w pe ne ce E v' (O++[x]) W2:=by
 obtain ⟨v',W2,r,ho,hg,hat⟩:=app_row eR_len eR_one (by decide) Tryz.underlying79 infoR rfl (by decide) w.heap.size v O x hO W H.own H.bel.size
 have E1:=H.ends.below (Go.Joins.below_alloc1 W (.cells (eR x).toArray 56))
 refine ⟨v',W2,r,ho,ends_far E1 hg.size (fun g ⟨o,e⟩ lg=>hg.block g lg (fun q=>H.far g q.symm o e)),fun g e o q=> ?_,(below_new H.bel _).grown hg (by rw [World.size_alloc];have:=H.bel.size;omega) (fun g e=>(row_lt H.own g e).1)⟩
 rcases hat with h | h
 . exact H.far g (by rw [<- h];exact e) o q
 . rw [h] at e
   have e2:=Option.some.inj e
   rcases H.ends with ⟨h1,_⟩ | ⟨g',o',c',hv,_,_,lg,_⟩
   . cases h1;cases q
   . cases hv;cases q;omega
theorem LS.last {w W:World} {pe:Option Addr} {ne ce:Nat} {E:List Int} {v:Value} {M:List (Int × Int)} {q:Int × Int} (H:LS w pe ne ce E v (M++[q]) W) :
 ∃ g c,v=.slice (some ⟨g,0,none⟩) (M.length+1) c/\(∀ o,pe≠some ⟨g,o,none⟩)/\W.cell? ⟨g,M.length*2+1,none⟩=some (.int .i64 q.2)/\W.frozen? ⟨g,M.length*2+1,none⟩=false/\M.length<c/\ ∀ t:Int,LS w pe ne ce E v (M++[(q.1,t)]) (W.setCell ⟨g,M.length*2+1,none⟩ (.int .i64 t)):=by
 obtain ⟨g,c,hv,bg,lg,k0,k1,kf,mc,ks⟩:=or_last H.own
 have hf: ∀ o,pe≠some ⟨g,o,none⟩:=fun o=>H.far g (by rw [hv];rfl) o
 refine ⟨g,c,hv,hf,k1,kf,mc,fun t=>⟨ks t,ends_far H.ends (by rw [World.size_setCell];exact Nat.le_refl _) (fun b ⟨o,e⟩ lb=>Below.heap_setCell _ _ _ _ (fun q=>hf o (e.trans (congrArg (fun z=>some (Addr.mk z o none)) (q))))),H.far,H.bel.setCell (p:=⟨g,M.length*2+1,none⟩) bg _⟩⟩
theorem LS.cells {w W:World} {g o ne ce kk:Nat} {E:List Int} {v:Value} {O:List (Int × Int)} {x y:Int} (H:LS w (some ⟨g,o,none⟩) ne ce E v O W) (h:kk<E.length) (h1:kk+1<E.length) (hx:E[kk]? =some x) (hy:E[kk+1]? =some y):W.cell? ⟨g,o+kk,none⟩=some (.int .i64 x)/\W.cell? ⟨g,o+kk+1,none⟩=some (.int .i64 y):=by
 rcases H.ends with ⟨e,_⟩ | ⟨g',o',c',hv,hc,l0,lg,r⟩
 . cases e
 . cases hv
   have r0:=r kk h 0 (by omega)
   have r1:=r (kk+1) h1 0 (by omega)
   rw [List.getElem?_eq_getElem h] at hx
   rw [List.getElem?_eq_getElem h1] at hy
   cases hx
   cases hy
   rw [Nat.mul_one,Nat.add_zero] at r0 r1
   rw [<- Nat.add_assoc] at r1
   exact ⟨r0,r1⟩
set_option maxHeartbeats 8000000 in
theorem rless_any (lo1 lo2:Nat) (v u:Value) (L A:List (Int × Int)) (hL:L.length<=100) (hA:A.length<=100) (w:World) (H:RL w lo1 v L) (K:RL w lo2 u A) :
 Calls Tryz.prog 75 #[v,u] w fun e w'=> ∃ v' M,e=.returned v'/\OR w' w.heap.size v' M/\Can M/\(∀ n,Has M n↔Has L n/\ ¬ Has A n)/\M.length<=400/\Below w.heap.size w w':=by
 have b0:=Go.Joins.below_alloc1 w (.cells #[] 56)
 have EC:Hid _:=ends_any lo1 lo2 v u L A hL hA (w.alloc (.cells #[] 56)) (H.below b0) (K.below b0)
 have SL:Hid (∀ (x:Int) (z:Bool) (W:World),(z=true↔Has L x)->Below w.heap.size w W->_):=fun x z W hz hb=>some_any lo1 v L x z hz (by omega) W (H.below hb)
 have SA:Hid (∀ (x:Int) (z:Bool) (W:World),(z=true↔Has A x)->Below w.heap.size w W->_):=fun x z W hz hb=>some_any lo2 u A x z hz (by omega) W (K.below hb)
 have EL:Hid ((endsV L A).length<=400):=by have:=endsV_len L A;show _<=_;omega
 have LV:=lessV_all L A
 have HLV:Hid (Can (lessV L A (endsV L A) ((endsV L A).length-1))/\ ∀ n,Has (lessV L A (endsV L A) ((endsV L A).length-1)) n↔Has L n/\ ¬ Has A n):=LV
 have O0:Hid (OR (w.alloc (.cells #[] 56)) w.heap.size (.slice (some ⟨w.heap.size,0,none⟩) 0 0) []):=ol_made w _ (Nat.le_refl _)
 have HB0:Hid (Below w.heap.size w (w.alloc (.cells #[] 56))/\(w.alloc (.cells #[] 56)).heap.size=w.heap.size+1):=⟨b0,World.size_alloc _ _⟩
 clear H K hL hA b0 LV
 go_enter Tryz.func75,Tryz.ntmps75
 go_wp2_with fail
 refine Calls.mono EC.out ?_
 rintro e w1 ⟨v6,rfl,R6,B1⟩
 obtain ⟨E,hE⟩: ∃ E,endsV L A=E:=⟨_,rfl⟩
 rw [hE] at R6 HLV EL
 obtain ⟨pe,ce,hv6,hce,hpe,_⟩:=R6.form
 obtain ⟨ne,hne⟩: ∃ ne,E.length=ne:=⟨_,rfl⟩
 have HNE:Hid (E.length=ne):=hne
 have ne9:ne<=400:=by rw [<- hne];exact EL.out
 rw [hne] at hv6
 subst hv6
 have HFAR:Hid (∀ g,(Value.slice (some ⟨w.heap.size,0,none⟩) 0 0).ownBlock=some g-> ∀ o,pe≠some ⟨g,o,none⟩):=fun g e o q=>by
  rcases R6 with ⟨h1,_⟩ | ⟨g2,o2,c2,hv2,_,l0,_,_⟩
  . cases h1;cases q
  . cases hv2;cases q;cases e;rw [World.size_alloc] at l0;exact absurd l0 (Nat.not_succ_le_self _)
 have L0:Hid (LS w pe ne ce E (.slice (some ⟨w.heap.size,0,none⟩) 0 0) (lessV L A E 0) w1):=⟨row_below O0.out B1,R6.low (Nat.zero_le _),HFAR.out,below_then HB0.out.1 B1⟩
 clear R6 B1 EC hne hE hpe hce O0 HB0 HFAR EL
 generalize Value.slice (some ⟨w.heap.size,0,none⟩) 0 0=v5 at L0 |-
 go_wp2_with fail
 go_loopw [5,7,8] (fun v x n W=> ∃ k:Nat,(k=0\/k+1<=ne)/\x=.int .i64 k/\Hid (LS w pe ne ce E v (lessV L A E k) W)) (fun _ x _ _=>ne-(Go.RowKit.intOf x).toNat)
 case atStart=>exact ⟨0,Or.inl rfl,rfl,L0⟩
 case round =>
  clear L0
  obtain ⟨k,hk,rfl,JL⟩:=hrel
  by_cases ck:k+1<ne
  rotate_left
  . have d1:decide ((k:Int)+1<(ne:Int))=false:=decide_eq_false (by omega)
    go_wp2_with fail
    go_ret
    have ek:k=E.length-1:=by have:=HNE.out;omega
    have hh:=HLV.out
    rw [<- ek] at hh
    exact ⟨u5,lessV L A E k,rfl,JL.out.own,hh.1,hh.2,by have:=lessV_len L A E k;omega,JL.out.bel⟩
  have d1:decide ((k:Int)+1<(ne:Int))=true:=decide_eq_true (by omega)
  have d0:decide ((k:Int)<0)=false:=by simp
  have hke:k<E.length:=by rw [HNE.out];omega
  have hk1:k+1<E.length:=by rw [HNE.out];exact ck
  obtain ⟨p',c',hv',_,_,rd⟩:=JL.out.ends.form
  obtain ⟨ge,oe,hpe,_⟩:=rd k hke
  obtain rfl:pe=some ⟨ge,oe,none⟩:=by cases hv';exact hpe
  obtain ⟨ea,HEA⟩: ∃ ea,Hid (E[k]? =some ea):=⟨E[k],List.getElem?_eq_getElem hke⟩
  obtain ⟨eb,HEB⟩: ∃ eb,Hid (E[k+1]? =some eb):=⟨E[k+1],List.getElem?_eq_getElem hk1⟩
  have NX:Hid (∀ z:Bool,(z=true↔Has L ea/\ ¬ Has A ea)->lessV L A E (k+1)=pieceV (lessV L A E k) ea eb z):=fun z hz=>by
   have h1:E.getD k 0=ea:=by rw [List.getD_eq_getElem?_getD,HEA.out];rfl
   have h2:E.getD (k+1) 0=eb:=by rw [List.getD_eq_getElem?_getD,HEB.out];rfl
   rw [lessV,h1,h2]
   congr 1
   exact dec_is _ _ z hz
  have OL9:Hid ((lessV L A E k).length<=1000):=by have:=lessV_len L A E k;show _<=_;omega
  have y0:wr.cell? ⟨ge,oe+k,none⟩=some (.int .i64 ea):=(JL.out.cells hke hk1 HEA.out HEB.out).1
  clear hv' hpe rd
  generalize hO:lessV L A E k=O at JL NX OL9
  clear hO
  by_cases hl:Has L ea
  rotate_left
  . have NE:Hid (LS w (some ⟨ge,oe,none⟩) ne ce E u5 (lessV L A E (k+1)) wr):=by
     show LS _ _ _ _ _ _ _ _
     rw [NX.out false (by simp [hl]),piece_no];exact JL.out
    clear JL
    go_wp2_with fail
    refine Calls.mono (SL.out ea false wr (by simp [hl]) NE.out.bel) ?_
    rintro e wx ⟨rfl,BX⟩
    have NF:Hid (LS w (some ⟨ge,oe,none⟩) ne ce E u5 (lessV L A E (k+1)) wx):=NE.out.below BX
    clear NE BX y0
    go_wp2_with fail
    go_roundw
    case rel=>exact ⟨k+1,by omega,by go_num,NF⟩
    case measure=>simp [Go.RowKit.intOf];omega
  go_wp2_with fail
  refine Calls.mono (SL.out ea true wr (by simp [hl]) JL.out.bel) ?_
  rintro e wx ⟨rfl,BX⟩
  have JX:Hid (LS w (some ⟨ge,oe,none⟩) ne ce E u5 O wx):=JL.out.below BX
  have x0:wx.cell? ⟨ge,oe+k,none⟩=some (.int .i64 ea):=(JX.out.cells hke hk1 HEA.out HEB.out).1
  clear JL BX y0
  by_cases ha:Has A ea
  . have NE:Hid (LS w (some ⟨ge,oe,none⟩) ne ce E u5 (lessV L A E (k+1)) wx):=by
     show LS _ _ _ _ _ _ _ _
     rw [NX.out false (by simp [ha]),piece_no];exact JX.out
    clear JX
    go_wp2_with fail
    refine Calls.mono (SA.out ea true wx (by simp [ha]) NE.out.bel) ?_
    rintro e wy ⟨rfl,BX⟩
    have NF:Hid (LS w (some ⟨ge,oe,none⟩) ne ce E u5 (lessV L A E (k+1)) wy):=NE.out.below BX
    clear NE BX x0
    go_wp2_with fail
    go_roundw
    case rel=>exact ⟨k+1,by omega,by go_num,NF⟩
    case measure=>simp [Go.RowKit.intOf];omega
  go_wp2_with fail
  refine Calls.mono (SA.out ea false wx (by simp [ha]) JX.out.bel) ?_
  rintro e wy ⟨rfl,BX⟩
  have JY:Hid (LS w (some ⟨ge,oe,none⟩) ne ce E u5 O wy):=JX.out.below BX
  have NY:Hid (lessV L A E (k+1)=pieceV O ea eb true):=by
   show _=_
   rw [NX.out true (by simp [hl,ha])]
  clear JX BX x0 NX
  obtain ⟨ya,yb⟩:=JY.out.cells hke hk1 HEA.out HEB.out
  rcases nil_or_snoc O with e | ⟨M0,q,e⟩
  . subst e
    have NN:Hid (lessV L A E (k+1)=[]++[(ea,eb)]):=by show _=_;rw [NY.out,piece_first];rfl
    obtain ⟨pm,cm,hvm,_,_,_⟩:=(ol_ll eR_len JY.out.own).form
    rw [show ([]:List (Int × Int)).length=0 from rfl] at hvm
    subst hvm
    have zz:decide ((0:Int)<0)=false:=by decide
    clear NY
    go_wp2_with fail
    go_quiet (fail)
    have LX:Hid (LS w (some ⟨ge,oe,none⟩) ne ce E (.slice pm 0 cm) [] (wy.drewN nq)):=JY.out.below (below_drewN (Below.refl _ _))
    clear JY ya yb
    generalize wy.drewN nq=wx at LX |-
    obtain ⟨ya,yb⟩:=LX.out.cells hke hk1 HEA.out HEB.out
    go_wp2_with fail
    generalize Value.slice pm 0 cm=v5 at LX |-
    refine wp_region_noPanic ?_
    refine wp_region_held_drew (S:=fun W=>W.cell? ⟨ge,oe+k,none⟩=some (.int .i64 ea)/\W.cell? ⟨ge,oe+k+1,none⟩=some (.int .i64 eb)) (by kernel_rfl) ?_ (fun hHeld=> ?_)
    . exact ⟨ya,yb⟩
    have LSU:Hid (LS w (some ⟨ge,oe,none⟩) ne ce E v5 [] wx.drew):=LX.out.below (below_drew (Below.refl _ _))
    clear LX
    generalize wx.drew=U at hHeld LSU |-
    refine tk 0 62 ?_ rfl (Or.inl ⟨by rfl,?_⟩) ?_
    rotate_left
    . intro w hSw;(try dsimp only at hSw);go_simp;(try with_reducible rfl)
    try simp only [Act.put,z1,z2,z3]
    refine tk 1 63 ?_ rfl (Or.inl ⟨by rfl,?_⟩) ?_
    rotate_left
    . intro w hSw;(try dsimp only at hSw);go_simp;(try with_reducible rfl)
    try simp only [Act.put,z1,z2,z3]
    refine tk 2 64 ?_ rfl (Or.inl ⟨by rfl,?_⟩) ?_
    rotate_left
    . intro w hSw;(try dsimp only at hSw);go_simp;(try with_reducible rfl)
    try simp only [Act.put,z1,z2,z3]
    refine tk 3 65 ((.pointer (some ⟨ge,oe+k,none⟩))) rfl (Or.inl ⟨by rfl,?_⟩) ?_
    . intro w hSw;(try dsimp only at hSw);have q9:True:=trivial;go_simp;(try simp [*]);(intro hz;exfalso;first | omega | (have:=hz (by omega);omega));(try go_simp);(try simp [*])
    try simp only [Act.put,z1,z2,z3]
    refine tk 4 66 (.int .i64 ea) rfl (Or.inl ⟨by rfl,?_⟩) ?_
    . intro w hSw;(try dsimp only at hSw);have q0:w.cell? ⟨ge,oe+k,none⟩=some (.int .i64 ea):=hSw.1;(try go_simp);(try simp [*])
    try simp only [Act.put,z1,z2,z3]
    refine tk 5 67 ?_ rfl (Or.inl ⟨by rfl,?_⟩) ?_
    rotate_left
    . intro w hSw;(try dsimp only at hSw);go_simp;(try with_reducible rfl)
    try simp only [Act.put,z1,z2,z3]
    refine tk 6 68 ?_ rfl (Or.inl ⟨by rfl,?_⟩) ?_
    rotate_left
    . intro w hSw;(try dsimp only at hSw);go_simp;(try with_reducible rfl)
    try simp only [Act.put,z1,z2,z3]
    refine tk 7 69 ((.int .i64 ((k:Int)+1))) rfl (Or.inl ⟨by rfl,?_⟩) ?_
    . intro w hSw;(try dsimp only at hSw);go_simp;(try simp);(try (simp only [IntKind.wrap_i64];omega))
    try simp only [Act.put,z1,z2,z3]
    refine tk 8 70 ((.pointer (some ⟨ge,oe+k+1,none⟩))) rfl (Or.inl ⟨by rfl,?_⟩) ?_
    . intro w hSw;(try dsimp only at hSw);have q9:oe+(k+1)=oe+k+1:=(by omega);go_simp;(try simp [*]);(intro hz;exfalso;first | omega | (have:=hz (by omega);omega));(try go_simp);(try simp [*])
    try simp only [Act.put,z1,z2,z3]
    refine tk 9 71 (.int .i64 eb) rfl (Or.inl ⟨by rfl,?_⟩) ?_
    . intro w hSw;(try dsimp only at hSw);have q0:w.cell? ⟨ge,oe+k+1,none⟩=some (.int .i64 eb):=hSw.2;(try go_simp);(try simp [*])
    try simp only [Act.put,z1,z2,z3]
    refine tk 10 72 ?_ rfl (Or.inl ⟨by rfl,?_⟩) ?_
    rotate_left
    . intro w hSw;(try dsimp only at hSw);go_simp;(try with_reducible rfl)
    try simp only [Act.put,z1,z2,z3]
    obtain ⟨v',W2,r,L2⟩:=LSU.out.app (by have h:([]:List (Int × Int)).length<=1000:=OL9.out;omega) (ea,eb)
    have HL2:Hid (LS w (some ⟨ge,oe,none⟩) ne ce E v' ([]++[(ea,eb)]) W2):=L2
    have A1:Hid (U.heap.size=U.heap.size/\LS w (some ⟨ge,oe,none⟩) ne ce E v5 [] (U.alloc (.cells #[.int .i64 ea,.int .i64 eb] 56))):=⟨rfl,LSU.out.below (Go.Joins.below_alloc1 _ _)⟩
    clear LSU L2
    refine wpAnyH_ready (rs:=[11]) (by kernel_rfl) (by simp) ?_
    refine AllReadyH.cons (o:=⟨some 73,_,_,_,_,none⟩) rfl (fun K hK=> ?_) AllReadyH.nil
    go_simp
    refine hK.out _ _ ⟨A1.out.2.cells (kk:=k) hke hk1 HEA.out HEB.out |>.1,A1.out.2.cells (kk:=k) hke hk1 HEA.out HEB.out |>.2⟩ (fun hHeld2=> ?_)
    clear hK K hHeld
    try simp only [Act.put,z1,z2,z3]
    refine wpAnyH_ready (rs:=[12]) (by kernel_rfl) (by simp) ?_
    refine AllReadyH.cons (o:=⟨some 74,_,_,_,_,none⟩) rfl (fun K hK=> ?_) AllReadyH.nil
    refine wanted_mp rfl ?_
    refine wp_app _ _ 79 rfl v5 (.slice (some ⟨U.heap.size,0,none⟩) 1 1) rfl rfl v' W2 r ?_
    refine hK.out _ _ ⟨HL2.out.cells (kk:=k) hke hk1 HEA.out HEB.out |>.1,HL2.out.cells (kk:=k) hke hk1 HEA.out HEB.out |>.2⟩ (fun hHeld=> ?_)
    clear hK K hHeld2
    try simp only [Act.put,z1,z2,z3]
    refine tk 13 5 ?_ rfl (Or.inl ⟨by rfl,?_⟩) ?_
    rotate_left
    . intro w hSw;(try dsimp only at hSw);go_simp;(try with_reducible rfl)
    try simp only [Act.put,z1,z2,z3]
    clear hHeld
    refine wpAnyH_done (by kernel_rfl) ?_ _
    refine NoPanic.normal ?_
    have NF:Hid (LS w (some ⟨ge,oe,none⟩) ne ce E v' (lessV L A E (k+1)) W2):=by rw [NN.out];exact HL2.out
    clear HL2
    go_wp2_with fail
    go_roundw
    case rel=>exact ⟨k+1,by omega,by go_num,NF⟩
    case measure=>simp [Go.RowKit.intOf];omega
  . subst e
    obtain ⟨gm,cm,hvm,gf,k1,kf,mc,kset⟩:=JY.out.last
    obtain ⟨q1,q2⟩:=q
    obtain ⟨ml,hml⟩: ∃ ml,M0.length=ml:=⟨_,rfl⟩
    have HML:Hid (M0.length=ml):=hml
    have ML9:ml<=1000:=by have h:(M0++[(q1,q2)]).length<=1000:=OL9.out;simp at h;omega
    rw [hml] at hvm k1 kf mc
    simp only at k1
    have i0:decide ((0:Int)<(ml:Int)+1)=true:=decide_eq_true (by omega)
    subst hvm
    by_cases c2:q2=ea
    . subst c2
      have NN:Hid (lessV L A E (k+1)=M0++[(q1,eb)]):=by show _=_;rw [NY.out,piece_meet]
      clear NY kset hml kf
      go_wp2_with fail
      go_quiet (fail)
      have LX:Hid (LS w (some ⟨ge,oe,none⟩) ne ce E (.slice (some ⟨gm,0,none⟩) (ml+1) cm) (M0++[(q1,q2)]) (wy.drewN nq)):=JY.out.below (below_drewN (Below.refl _ _))
      clear JY ya yb k1
      generalize wy.drewN nq=wx at LX |-
      obtain ⟨ya,yb⟩:=LX.out.cells hke hk1 HEA.out HEB.out
      obtain ⟨gm',cm',hvm',gf',k1,kf,mc',kset⟩:=LX.out.last
      rw [HML.out] at hvm' k1 kf kset
      cases hvm'
      have NF:Hid (LS w (some ⟨ge,oe,none⟩) ne ce E (.slice (some ⟨gm,0,none⟩) (ml+1) cm) (lessV L A E (k+1)) (wx.setCell ⟨gm,ml*2+1,none⟩ (.int .i64 eb))):=by rw [NN.out];exact kset eb
      have yb2:wx.cell? ⟨ge,oe+(k+1),none⟩=some (.int .i64 eb):=yb
      clear kset gf' mc' LX
      go_wp2_with fail
      go_roundw
      case rel=>exact ⟨k+1,by omega,by go_num,NF⟩
      case measure=>simp [Go.RowKit.intOf];omega
    . have NN:Hid (lessV L A E (k+1)=(M0++[(q1,q2)])++[(ea,eb)]):=by show _=_;rw [NY.out,piece_new _ _ _ _ c2]
      have dq:(q2==ea)=false:=by simp [c2]
      clear NY kset hml kf
      go_wp2_with fail
      go_quiet (fail)
      have LX:Hid (LS w (some ⟨ge,oe,none⟩) ne ce E (.slice (some ⟨gm,0,none⟩) (ml+1) cm) (M0++[(q1,q2)]) (wy.drewN nq)):=JY.out.below (below_drewN (Below.refl _ _))
      clear JY ya yb k1
      generalize wy.drewN nq=wx at LX |-
      obtain ⟨ya,yb⟩:=LX.out.cells hke hk1 HEA.out HEB.out
      go_wp2_with fail
      generalize Value.slice (some ⟨gm,0,none⟩) (ml+1) cm=v5 at LX |-
      generalize hO:M0++[(q1,q2)]=O at LX NN OL9
      refine wp_region_noPanic ?_
      refine wp_region_held_drew (S:=fun W=>W.cell? ⟨ge,oe+k,none⟩=some (.int .i64 ea)/\W.cell? ⟨ge,oe+k+1,none⟩=some (.int .i64 eb)) (by kernel_rfl) ?_ (fun hHeld=> ?_)
      . exact ⟨ya,yb⟩
      have LSU:Hid (LS w (some ⟨ge,oe,none⟩) ne ce E v5 O wx.drew):=LX.out.below (below_drew (Below.refl _ _))
      clear LX
      generalize wx.drew=U at hHeld LSU |-
      refine tk 0 62 ?_ rfl (Or.inl ⟨by rfl,?_⟩) ?_
      rotate_left
      . intro w hSw;(try dsimp only at hSw);go_simp;(try with_reducible rfl)
      try simp only [Act.put,z1,z2,z3]
      refine tk 1 63 ?_ rfl (Or.inl ⟨by rfl,?_⟩) ?_
      rotate_left
      . intro w hSw;(try dsimp only at hSw);go_simp;(try with_reducible rfl)
      try simp only [Act.put,z1,z2,z3]
      refine tk 2 64 ?_ rfl (Or.inl ⟨by rfl,?_⟩) ?_
      rotate_left
      . intro w hSw;(try dsimp only at hSw);go_simp;(try with_reducible rfl)
      try simp only [Act.put,z1,z2,z3]
      refine tk 3 65 ((.pointer (some ⟨ge,oe+k,none⟩))) rfl (Or.inl ⟨by rfl,?_⟩) ?_
      . intro w hSw;(try dsimp only at hSw);have q9:True:=trivial;go_simp;(try simp [*]);(intro hz;exfalso;first | omega | (have:=hz (by omega);omega));(try go_simp);(try simp [*])
      try simp only [Act.put,z1,z2,z3]
      refine tk 4 66 (.int .i64 ea) rfl (Or.inl ⟨by rfl,?_⟩) ?_
      . intro w hSw;(try dsimp only at hSw);have q0:w.cell? ⟨ge,oe+k,none⟩=some (.int .i64 ea):=hSw.1;(try go_simp);(try simp [*])
      try simp only [Act.put,z1,z2,z3]
      refine tk 5 67 ?_ rfl (Or.inl ⟨by rfl,?_⟩) ?_
      rotate_left
      . intro w hSw;(try dsimp only at hSw);go_simp;(try with_reducible rfl)
      try simp only [Act.put,z1,z2,z3]
      refine tk 6 68 ?_ rfl (Or.inl ⟨by rfl,?_⟩) ?_
      rotate_left
      . intro w hSw;(try dsimp only at hSw);go_simp;(try with_reducible rfl)
      try simp only [Act.put,z1,z2,z3]
      refine tk 7 69 ((.int .i64 ((k:Int)+1))) rfl (Or.inl ⟨by rfl,?_⟩) ?_
      . intro w hSw;(try dsimp only at hSw);go_simp;(try simp);(try (simp only [IntKind.wrap_i64];omega))
      try simp only [Act.put,z1,z2,z3]
      refine tk 8 70 ((.pointer (some ⟨ge,oe+k+1,none⟩))) rfl (Or.inl ⟨by rfl,?_⟩) ?_
      . intro w hSw;(try dsimp only at hSw);have q9:oe+(k+1)=oe+k+1:=(by omega);go_simp;(try simp [*]);(intro hz;exfalso;first | omega | (have:=hz (by omega);omega));(try go_simp);(try simp [*])
      try simp only [Act.put,z1,z2,z3]
      refine tk 9 71 (.int .i64 eb) rfl (Or.inl ⟨by rfl,?_⟩) ?_
      . intro w hSw;(try dsimp only at hSw);have q0:w.cell? ⟨ge,oe+k+1,none⟩=some (.int .i64 eb):=hSw.2;(try go_simp);(try simp [*])
      try simp only [Act.put,z1,z2,z3]
      refine tk 10 72 ?_ rfl (Or.inl ⟨by rfl,?_⟩) ?_
      rotate_left
      . intro w hSw;(try dsimp only at hSw);go_simp;(try with_reducible rfl)
      try simp only [Act.put,z1,z2,z3]
      obtain ⟨v',W2,r,L2⟩:=LSU.out.app (by have h:(O:List (Int × Int)).length<=1000:=OL9.out;omega) (ea,eb)
      have HL2:Hid (LS w (some ⟨ge,oe,none⟩) ne ce E v' (O++[(ea,eb)]) W2):=L2
      have A1:Hid (U.heap.size=U.heap.size/\LS w (some ⟨ge,oe,none⟩) ne ce E v5 O (U.alloc (.cells #[.int .i64 ea,.int .i64 eb] 56))):=⟨rfl,LSU.out.below (Go.Joins.below_alloc1 _ _)⟩
      clear LSU L2
      refine wpAnyH_ready (rs:=[11]) (by kernel_rfl) (by simp) ?_
      refine AllReadyH.cons (o:=⟨some 73,_,_,_,_,none⟩) rfl (fun K hK=> ?_) AllReadyH.nil
      go_simp
      refine hK.out _ _ ⟨A1.out.2.cells (kk:=k) hke hk1 HEA.out HEB.out |>.1,A1.out.2.cells (kk:=k) hke hk1 HEA.out HEB.out |>.2⟩ (fun hHeld2=> ?_)
      clear hK K hHeld
      try simp only [Act.put,z1,z2,z3]
      refine wpAnyH_ready (rs:=[12]) (by kernel_rfl) (by simp) ?_
      refine AllReadyH.cons (o:=⟨some 74,_,_,_,_,none⟩) rfl (fun K hK=> ?_) AllReadyH.nil
      refine wanted_mp rfl ?_
      refine wp_app _ _ 79 rfl v5 (.slice (some ⟨U.heap.size,0,none⟩) 1 1) rfl rfl v' W2 r ?_
      refine hK.out _ _ ⟨HL2.out.cells (kk:=k) hke hk1 HEA.out HEB.out |>.1,HL2.out.cells (kk:=k) hke hk1 HEA.out HEB.out |>.2⟩ (fun hHeld=> ?_)
      clear hK K hHeld2
      try simp only [Act.put,z1,z2,z3]
      refine tk 13 5 ?_ rfl (Or.inl ⟨by rfl,?_⟩) ?_
      rotate_left
      . intro w hSw;(try dsimp only at hSw);go_simp;(try with_reducible rfl)
      try simp only [Act.put,z1,z2,z3]
      clear hHeld
      refine wpAnyH_done (by kernel_rfl) ?_ _
      refine NoPanic.normal ?_
      have NF:Hid (LS w (some ⟨ge,oe,none⟩) ne ce E v' (lessV L A E (k+1)) W2):=by rw [NN.out];exact HL2.out
      clear HL2
      go_wp2_with fail
      go_roundw
      case rel=>exact ⟨k+1,by omega,by go_num,NF⟩
      case measure=>simp [Go.RowKit.intOf];omega
end Go.Proofs.YthmobfelhpbllaaGreatDoor.Bm
