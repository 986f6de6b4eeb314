import Derived.Test.YtkiclbnbnjbcaaaDoorBDA
namespace Go.Proofs.YtkiclbnbnjbcaaaDoor.Bd
open Go.ChangeShapes Go.WideShapes Go.ChangeAt Go.RowKit Go.Maps
set_option linter.unusedSimpArgs false
set_option linter.unusedVariables false
set_option maxRecDepth 8000
theorem swap_mem (h:List Int) (i j:Nat) (hi:i<h.length) (hj:j<h.length) (n:i≠j) (a:Int):a∈swapL h i j↔a∈h:=by
 rw [List.mem_iff_getElem?,List.mem_iff_getElem?]
 constructor
 . rintro ⟨k,hk⟩
   rw [swap_get h i j hi hj n] at hk
   split at hk
   . exact ⟨i,by rw [List.getElem?_eq_getElem hi];exact hk⟩
   . split at hk
     . exact ⟨j,by rw [List.getElem?_eq_getElem hj];exact hk⟩
     . exact ⟨k,hk⟩
 . rintro ⟨k,hk⟩
   by_cases c:k=i
   . subst c;exact ⟨j,by rw [swap_get h k j hi hj n,if_pos rfl,<- List.getElem?_eq_getElem hi];exact hk⟩
   . by_cases d:k=j
     . subst d;exact ⟨i,by rw [swap_get h i k hi hj n,if_neg n,if_pos rfl,<- List.getElem?_eq_getElem hj];exact hk⟩
     . exact ⟨k,by rw [swap_get h i j hi hj n,if_neg d,if_neg c];exact hk⟩
theorem up_mem (h:List Int) (j:Nat) (hj:j<h.length) (a:Int):a∈upL h j↔a∈h:=by
 fun_induction upL h j with
 | case1 => rfl
 | case2 h j j0 c ih => rw [ih (by rw [swap_len]; omega), swap_mem h _ j (by omega) hj (by omega)]
 | case3 => rfl
theorem down_mem (h:List Int) (m i:Nat) (hi:i<h.length) (hm:m<=h.length) (a:Int):a∈(downS h m i).1↔a∈h:=by
 fun_induction downS h m i with
 | case1 h i hm' c ih =>
  have kb:=kid_bd h m i hm'
  rw [ih (by rw [swap_len];omega) (by rw [swap_len];exact hm),swap_mem h i _ hi (by omega) (by omega)]
 | case2 => rfl
 | case3 => rfl
theorem remH_mem (h:List Int) (i:Nat) (hi:i<h.length) (a:Int):a∈remH h i↔a∈h:=by
 unfold remH
 split
 . rfl
 . have sm:=swap_mem h i (h.length-1) hi (by omega) (by omega) a
   have dm:=down_mem (swapL h i (h.length-1)) (h.length-1) i (by rw [swap_len];exact hi) (by rw [swap_len];omega) a
   split
   . rw [dm,sm]
   . rw [up_mem _ i (by rw [down_len,swap_len];exact hi),dm,sm]
def Nd (h:List Int):Prop:= ∀ (k m:Nat) (x:Int),k≠m->h[k]? =some x->h[m]? =some x->False
theorem swap_sig (h:List Int) (i j:Nat) (hi:i<h.length) (hj:j<h.length) (n:i≠j) (k:Nat):(swapL h i j)[k]? =h[if k=j then i else if k=i then j else k]? :=by
 rw [swap_get h i j hi hj n]
 split
 . rw [List.getElem?_eq_getElem hi]
 . split
   . rw [List.getElem?_eq_getElem hj]
   . rfl
theorem Nd.swap {h:List Int} (H:Nd h) (i j:Nat) (hi:i<h.length) (hj:j<h.length) (n:i≠j):Nd (swapL h i j):=fun k m x km e1 e2=>by
 rw [swap_sig h i j hi hj n] at e1 e2
 refine H _ _ x ?_ e1 e2
 split <;> split <;> (try split) <;> (try split) <;> omega
theorem Nd.up {h:List Int} {j:Nat} (H:Nd h) (hj:j<h.length):Nd (upL h j):=by
 fun_induction upL h j with
 | case1 => exact H
 | case2 h j j0 c ih => exact ih (H.swap _ j (by omega) hj (by omega)) (by rw [swap_len]; omega)
 | case3 => exact H
theorem Nd.down {h:List Int} {m i:Nat} (H:Nd h) (hi:i<h.length) (hm:m<=h.length):Nd (downS h m i).1:=by
 fun_induction downS h m i with
 | case1 h i hm' c ih =>
  have kb:=kid_bd h m i hm'
  exact ih (H.swap i _ hi (by omega) (by omega)) (by rw [swap_len];omega) (by rw [swap_len];exact hm)
 | case2 => exact H
 | case3 => exact H
theorem Nd.rem {h:List Int} {i:Nat} (H:Nd h) (hi:i<h.length):Nd (remH h i):=by
 unfold remH
 split
 . exact H
 . have a:=H.swap i (h.length-1) hi (by omega) (by omega)
   have b:=a.down (m:=h.length-1) (i:=i) (by rw [swap_len];exact hi) (by rw [swap_len];omega)
   split
   . exact b
   . exact b.up (by rw [down_len,swap_len];exact hi)
theorem Placed.nd {h:List Int} {F:Int->Option Int} (H:Placed h F):Nd h:=fun k m x km e1 e2=>by
 have l1:=(List.getElem?_eq_some_iff.1 e1)
 have l2:=(List.getElem?_eq_some_iff.1 e2)
 exact H.ne l1.1 l2.1 km (l1.2.trans l2.2.symm)
theorem MapC.look1 {w:World} {b n c:Nat} {f:Int->Option Int} (h:MapC w b n c f) {k:Int} (hk:(Lit.int .i64 k).wf=true) :
 (Instr.lookup 108 (.map (some b)) (.int .i64 k) false).run Tryd.prog w=.ok (.int .i64 ((f k).getD 0)) w:=by
 obtain ⟨D,hown,_,hD⟩:=h
 obtain ⟨x,hrun,hx,_⟩:=hown.lookup_int keyLaw Tryd.underlying108 Tryd.underlying3 (zeroI w) (keyOf_int_mk Tryd.underlying3 hk)
 rw [(hD k).2] at hx
 have e2:(f k).getD 0=x:=by simpa using hx
 rw [hrun,e2]
def Bs (w:World) (base b q mb N:Nat) (C:List Value) (sv:Value) (A:Int->Prop):Prop:= ∃ h F n,Bl w base b q mb n C sv h F/\Placed h F/\HeapTo h h.length/\(h.length<=N/\n<=N)/\ ∀ a,a∈h↔A a
theorem Bs.below {w w':World} {base b q mb n:Nat} {C:List Value} {sv:Value} {A:Int->Prop} (H:Bs w base b q mb n C sv A) (hb:Below w.heap.size w w'):Bs w' base b q mb n C sv A:=by
 obtain ⟨h,F,n',h1,h2⟩:=H
 exact ⟨h,F,n',h1.below hb,h2⟩
theorem placed_mem {h:List Int} {F:Int->Option Int} (H:Placed h F) (a:Int):(F a).isSome=true↔a∈h:=by
 constructor
 . intro e
   cases q:F a with
   | none => rw [q] at e; cases e
   | some k => obtain ⟨m, _, hm⟩ := H.2.1 a k q; exact List.mem_of_getElem? hm
 . intro e
   obtain ⟨k,hk,rfl⟩:=List.getElem_of_mem e
   rw [H.1 k hk];rfl
open Classical in
theorem has_any (base b q mb n:Nat) (C:List Value) (sv:Value) (A:Int->Prop) (x:Int) (hx: -1048576<=x/\x<1048576) (w:World) (H:Bs w base b q mb n C sv A) :
 Calls Tryd.prog 88 #[.pointer (some ⟨b,q,none⟩),.int .i64 x] w fun e w'=>e=.returned (.bool (decide (A x)))/\w'=w:=by
 obtain ⟨h,F,n',hB,hP,_,_,hA⟩:=H
 have lk:=hB.mp.look (k:=x) (wf64 (by omega) (by omega))
 have e:(F x).isSome=decide (A x):=by
  rw [Bool.eq_iff_iff,placed_mem hP,hA];simp
 rw [e] at lk
 have c0:w.cell? ⟨b,q,none⟩=some (.map (some mb)):=by rw [hB.blk.cell,hB.cm]
 have lb:=blk_lt hB.blk
 generalize (F x).getD 0=v at lk
 generalize decide (A x)=z at lk |-
 clear hB hP hA e
 go_enter Tryd.func88,Tryd.ntmps88
 go_wp2_with fail
 go_ret
 exact ⟨rfl,rfl⟩
set_option maxHeartbeats 1000000 in
theorem add_any (base b q mb n:Nat) (C:List Value) (sv:Value) (A:Int->Prop) (x:Int) (hx:0<=x/\x<1048576) (hn:n<1048576) (w:World) (hB:base<=w.heap.size) (H:Bs w base b q mb n C sv A) (nA: ¬ A x) :
 Calls Tryd.prog 90 #[.pointer (some ⟨b,q,none⟩),.int .i64 x] w fun e w'=> ∃ sv',e=.returned (.tuple #[])/\Bs w' base b q mb (n+1) (C.set (q+1) sv') sv' (fun a=>A a\/a=x)/\Kf (fun k=>k=b\/k=mb\/sv.ownBlock=some k) w w'/\(sv'.ownBlock=sv.ownBlock\/ ∃ g,sv'.ownBlock=some g/\w.heap.size<=g):=by
 obtain ⟨h,F,n',hBl,hP,hH,⟨hl,hn'⟩,hA⟩:=H
 have fx:F x=none:=by
  cases q:F x with
  | none => rfl
  | some k => exact absurd ((hA x).1 ((placed_mem hP x).1 (by rw [q]; rfl))) nA
 have PC:=hpush_any base b q mb n' C sv h F x hx (by unfold maxLen;omega) (by omega) w hBl hP hB fx
 have PC':Hid _:=PC
 have MM:Hid (∀ a,a∈upL (h++[x]) h.length↔(A a\/a=x)):=fun a=>by
  rw [up_mem _ _ (by simp),List.mem_append,List.mem_singleton,hA]
 have HH:Hid (HeapTo (upL (h++[x]) h.length) (upL (h++[x]) h.length).length):=by
  show HeapTo _ _
  have:=push_heap h x hH
  rw [up_len];simpa using this
 have LL:Hid ((upL (h++[x]) h.length).length<=n+1):=by show _<=_;rw [up_len];simp;omega
 clear PC hBl hP hA hH fx nA
 go_enter Tryd.func90,Tryd.ntmps90
 go_wp2_with fail
 refine Calls.mono PC'.out ?_
 rintro e u1 ⟨sv',F',rfl,p1,p2,p3,p4⟩
 have PP:Hid (Bs u1 base b q mb (n+1) (C.set (q+1) sv') sv' (fun a=>A a\/a=x)/\Kf (fun k=>k=b\/k=mb\/sv.ownBlock=some k) w u1/\(sv'.ownBlock=sv.ownBlock\/ ∃ g,sv'.ownBlock=some g/\w.heap.size<=g)):=⟨⟨_,F',_,p1,p2,HH.out,⟨LL.out,by omega⟩,MM.out⟩,p3,p4⟩
 clear p1 p2 p3 p4
 go_wp2_with fail
 go_end0
 exact ⟨sv',rfl,PP.out⟩
set_option maxHeartbeats 1000000 in
theorem drop_any (base b q mb n:Nat) (C:List Value) (sv:Value) (A:Int->Prop) (x:Int) (hn:n<=1048576) (w:World) (H:Bs w base b q mb n C sv A) (aA:A x) :
 Calls Tryd.prog 89 #[.pointer (some ⟨b,q,none⟩),.int .i64 x] w fun e w'=> ∃ sv',e=.returned (.tuple #[])/\Bs w' base b q mb n (C.set (q+1) sv') sv' (fun a=>A a/\a≠x)/\Kf (fun k=>k=b\/k=mb\/sv.ownBlock=some k) w w'/\sv'.ownBlock=sv.ownBlock:=by
 obtain ⟨h,F,n0,hBl,hP,hH,⟨hl,hn0⟩,hA⟩:=H
 obtain ⟨i,hi,hix⟩:=List.getElem_of_mem ((hA x).2 aA)
 have fx:F x=some (i:Int):=by rw [<- hix];exact hP.1 i hi
 have hx:=hP.2.2 x ((hA x).2 aA)
 have lk:=hBl.mp.look1 (k:=x) (wf64 (by omega) (by omega))
 rw [fx] at lk
 have RC:=hrem_any base b q mb n0 C sv h F i hi (by unfold maxLen;omega) (by omega) w hBl hP
 rw [hix] at RC
 have RC':Hid _:=RC
 have c0:w.cell? ⟨b,q,none⟩=some (.map (some mb)):=by rw [hBl.blk.cell,hBl.cm]
 have lb:=blk_lt hBl.blk
 have RS:=rem_split h i hi
 rw [hix] at RS
 have lr:(remL h i).length+1=h.length:=by have:=congrArg List.length RS;rw [remH_len] at this;simp at this;omega
 have NX:Hid (∀ k m:Nat,k≠m->(remH h i)[k]? =some x->(remH h i)[m]? =some x->False):=fun k m km=>hP.nd.rem hi k m x km
 have nx:x∉remL h i:=fun q=>by
  obtain ⟨k,hk,hkx⟩:=List.getElem_of_mem q
  have e1:(remH h i)[k]? =some x:=by rw [RS,List.getElem?_append_left hk,List.getElem?_eq_getElem hk,hkx]
  have e2:(remH h i)[(remL h i).length]? =some x:=by rw [RS];simp
  exact NX.out k (remL h i).length (by omega) e1 e2
 have MM:Hid (∀ a,a∈remL h i↔(A a/\a≠x)):=fun a=>by
  have e1:=remH_mem h i hi a
  rw [RS,List.mem_append,List.mem_singleton,hA] at e1
  constructor
  . intro q;exact ⟨e1.1 (Or.inl q),fun e=>nx (by rw [<- e];exact q)⟩
  . rintro ⟨q1,q2⟩
    rcases e1.2 q1 with r | r
    . exact r
    . exact absurd r q2
 have HH:Hid (HeapTo (remL h i) (remL h i).length):=by
  show HeapTo _ _
  have:=rem_heap h i hi hH
  intro k k0 km
  have g: ∀ k,k<(remL h i).length->(remH h i).getD k 0=(remL h i).getD k 0:=fun k hk=>by rw [RS,List.getD_eq_getElem?_getD,List.getElem?_append_left hk,<- List.getD_eq_getElem?_getD]
  have:=this k k0 (by omega)
  rw [g _ (by omega),g _ km] at this
  exact this
 have LL:Hid ((remL h i).length<=n):=by show _<=_;omega
 clear RC hBl hP hA hH fx aA hix RS nx NX
 go_enter Tryd.func89,Tryd.ntmps89
 go_wp2_with fail
 refine Calls.mono RC'.out ?_
 rintro e u1 ⟨sv',n1,F',rfl,p0,p1,p2,p3,p4⟩
 have PP:Hid (Bs u1 base b q mb n (C.set (q+1) sv') sv' (fun a=>A a/\a≠x)/\Kf (fun k=>k=b\/k=mb\/sv.ownBlock=some k) w u1/\sv'.ownBlock=sv.ownBlock):=⟨⟨_,F',_,p1,p2,HH.out,⟨LL.out,by omega⟩,MM.out⟩,p3,p4⟩
 clear p0 p1 p2 p3 p4
 go_wp2_with fail
 go_end0
 exact ⟨sv',rfl,PP.out⟩
set_option maxHeartbeats 1000000 in
theorem low_any (base b q mb n:Nat) (C:List Value) (sv:Value) (A:Int->Prop) (hn:n<=1048576) (w:World) (H:Bs w base b q mb n C sv A) (ne: ∃ a,A a) :
 Calls Tryd.prog 92 #[.pointer (some ⟨b,q,none⟩)] w fun e w'=> ∃ sv' x,e=.returned (.int .i64 x)/\(A x/\ ∀ a,A a->x<=a)/\Bs w' base b q mb n (C.set (q+1) sv') sv' (fun a=>A a/\a≠x)/\Kf (fun k=>k=b\/k=mb\/sv.ownBlock=some k) w w'/\sv'.ownBlock=sv.ownBlock:=by
 have H':=H
 obtain ⟨h,F,n0,hBl,hP,hH,⟨hl,hn0⟩,hA⟩:=H
 obtain ⟨a0,ha0⟩:=ne
 have l0:0<h.length:=List.length_pos_of_mem ((hA a0).2 ha0)
 obtain ⟨p,c,hv,rd⟩:=hBl.read
 obtain ⟨g,rfl,bg,lg,r0⟩:=rd 0 l0
 obtain ⟨x,hx⟩: ∃ x,h[0]=x:=⟨_,rfl⟩
 have Ax:A x:=by rw [<- hx];exact (hA _).1 (List.getElem_mem l0)
 have least: ∀ a,A a->x<=a:=fun a ha=>by
  obtain ⟨k,hk,hka⟩:=List.getElem_of_mem ((hA a).2 ha)
  have:=heap_least h hH k hk
  rw [getD_at h 0 l0,getD_at h k hk,hx,hka] at this
  exact this
 have DC:=drop_any base b q mb n C sv A x hn w H' Ax
 have DC':Hid _:=DC
 have AX:Hid (A x/\ ∀ a,A a->x<=a):=⟨Ax,least⟩
 rw [hx] at r0
 have c1:w.cell? ⟨b,q+1,none⟩=some (.slice (some ⟨g,0,none⟩) h.length c):=by rw [hBl.blk.cell,hBl.cs,hv]
 have lb:=blk_lt hBl.blk
 obtain ⟨m,hm⟩: ∃ m,h.length=m+1:=⟨h.length-1,by omega⟩
 rw [hm] at c1
 have d0:decide ((0:Int)<(m:Int)+1)=true:=decide_eq_true (by omega)
 clear DC hBl hP hA hH H' rd hv hx l0 Ax least ha0 hl hn0 hm
 go_enter Tryd.func92,Tryd.ntmps92
 go_wp2_with fail
 refine Calls.mono DC'.out ?_
 rintro e u1 ⟨sv',rfl,p1,p2,p3⟩
 have PP:Hid (Bs u1 base b q mb n (C.set (q+1) sv') sv' (fun a=>A a/\a≠x)/\Kf (fun k=>k=b\/k=mb\/sv.ownBlock=some k) w u1/\sv'.ownBlock=sv.ownBlock):=⟨p1,p2,p3⟩
 clear p1 p2 p3
 go_wp2_with fail
 go_ret
 exact ⟨sv',x,rfl,AX.out,PP.out⟩
end Go.Proofs.YtkiclbnbnjbcaaaDoor.Bd
