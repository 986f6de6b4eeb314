import Derived.Test.YtgbdnnkkcpkhdaaGreatDoorBDbc
import Derived.Laws.ShiftsVar
set_option linter.unusedSimpArgs false
set_option linter.unusedVariables false
set_option maxRecDepth 8000
set_option maxHeartbeats 2000000
open Go.ChangeShapes Go.WideShapes Go.ChangeAt Go.RowKit Go.Maps
namespace Go.Proofs.YtgbdnnkkcpkhdaaGreatDoor.Bd
theorem swap_mem (h:List Int) (i j:Nat) (hi:i<h.length) (hj:j<h.length) (n:i≠j) (a:Int):a∈swapL h i j↔a∈h:=by
 rw [List.mem_iff_getElem?,List.mem_iff_getElem?]
 constructor
 . rintro ⟨k,hk⟩
   rw [swap_get h i j hi hj n] at hk
   split at hk
   . exact ⟨i,by rw [List.getElem?_eq_getElem hi];exact hk⟩
   . split at hk
     . exact ⟨j,by rw [List.getElem?_eq_getElem hj];exact hk⟩
     . exact ⟨k,hk⟩
 . rintro ⟨k,hk⟩
   by_cases c:k=i
   . subst c;exact ⟨j,by rw [swap_get h k j hi hj n,if_pos rfl,<- List.getElem?_eq_getElem hi];exact hk⟩
   . by_cases d:k=j
     . subst d;exact ⟨i,by rw [swap_get h i k hi hj n,if_neg n,if_pos rfl,<- List.getElem?_eq_getElem hj];exact hk⟩
     . exact ⟨k,by rw [swap_get h i j hi hj n,if_neg d,if_neg c];exact hk⟩
theorem up_mem (h:List Int) (j:Nat) (hj:j<h.length) (a:Int):a∈upL h j↔a∈h:=by
 fun_induction upL h j with
 | case1 => rfl
 | case2 h j j0 c ih => rw [ih (by rw [swap_len]; omega), swap_mem h _ j (by omega) hj (by omega)]
 | case3 => rfl
theorem down_mem (h:List Int) (m i:Nat) (hi:i<h.length) (hm:m<=h.length) (a:Int):a∈(downS h m i).1↔a∈h:=by
 fun_induction downS h m i with
 | case1 h i hm' c ih =>
  have kb:=kid_bd h m i hm'
  rw [ih (by rw [swap_len];omega) (by rw [swap_len];exact hm),swap_mem h i _ hi (by omega) (by omega)]
 | case2 => rfl
 | case3 => rfl
theorem remH_mem (h:List Int) (i:Nat) (hi:i<h.length) (a:Int):a∈remH h i↔a∈h:=by
 unfold remH
 split
 . rfl
 . have sm:=swap_mem h i (h.length-1) hi (by omega) (by omega) a
   have dm:=down_mem (swapL h i (h.length-1)) (h.length-1) i (by rw [swap_len];exact hi) (by rw [swap_len];omega) a
   split
   . rw [dm,sm]
   . rw [up_mem _ i (by rw [down_len,swap_len];exact hi),dm,sm]
def Nd (h:List Int):Prop:= ∀ (k m:Nat) (x:Int),k≠m->h[k]? =some x->h[m]? =some x->False
theorem swap_sig (h:List Int) (i j:Nat) (hi:i<h.length) (hj:j<h.length) (n:i≠j) (k:Nat):(swapL h i j)[k]? =h[if k=j then i else if k=i then j else k]? :=by
 rw [swap_get h i j hi hj n]
 split
 . rw [List.getElem?_eq_getElem hi]
 . split
   . rw [List.getElem?_eq_getElem hj]
   . rfl
theorem Nd.swap {h:List Int} (H:Nd h) (i j:Nat) (hi:i<h.length) (hj:j<h.length) (n:i≠j):Nd (swapL h i j):=fun k m x km e1 e2=>by
 rw [swap_sig h i j hi hj n] at e1 e2
 refine H _ _ x ?_ e1 e2
 split <;> split <;> (try split) <;> (try split) <;> omega
theorem Nd.up {h:List Int} {j:Nat} (H:Nd h) (hj:j<h.length):Nd (upL h j):=by
 fun_induction upL h j with
 | case1 => exact H
 | case2 h j j0 c ih => exact ih (H.swap _ j (by omega) hj (by omega)) (by rw [swap_len]; omega)
 | case3 => exact H
theorem Nd.down {h:List Int} {m i:Nat} (H:Nd h) (hi:i<h.length) (hm:m<=h.length):Nd (downS h m i).1:=by
 fun_induction downS h m i with
 | case1 h i hm' c ih =>
  have kb:=kid_bd h m i hm'
  exact ih (H.swap i _ hi (by omega) (by omega)) (by rw [swap_len];omega) (by rw [swap_len];exact hm)
 | case2 => exact H
 | case3 => exact H
theorem Nd.rem {h:List Int} {i:Nat} (H:Nd h) (hi:i<h.length):Nd (remH h i):=by
 unfold remH
 split
 . exact H
 . have a:=H.swap i (h.length-1) hi (by omega) (by omega)
   have b:=a.down (m:=h.length-1) (i:=i) (by rw [swap_len];exact hi) (by rw [swap_len];omega)
   split
   . exact b
   . exact b.up (by rw [down_len,swap_len];exact hi)
theorem Placed.nd {h:List Int} {F:Int->Option Int} (H:Placed h F):Nd h:=fun k m x km e1 e2=>by
 have l1:=(List.getElem?_eq_some_iff.1 e1)
 have l2:=(List.getElem?_eq_some_iff.1 e2)
 exact H.ne l1.1 l2.1 km (l1.2.trans l2.2.symm)
theorem MapC.look1 {w:World} {b n c:Nat} {f:Int->Option Int} (h:MapC w b n c f) {k:Int} (hk:(Lit.int .i64 k).wf=true) :
 (Instr.lookup 31 (.map (some b)) (.int .i64 k) false).run Tryz.prog w=.ok (.int .i64 ((f k).getD 0)) w:=by
 obtain ⟨D,hown,_,hD⟩:=h
 obtain ⟨x,hrun,hx,_⟩:=hown.lookup_int keyLaw Tryz.underlying31 Tryz.underlying3 (zeroI w) (keyOf_int_mk Tryz.underlying3 hk)
 rw [(hD k).2] at hx
 have e2:(f k).getD 0=x:=by simpa using hx
 rw [hrun,e2]
def Bs (w:World) (base b q mb N:Nat) (C:List Value) (sv:Value) (A:Int->Prop):Prop:= ∃ h F n,Bl w base b q mb n C sv h F/\Placed h F/\HeapTo h h.length/\(h.length<=N/\n<=N)/\ ∀ a,a∈h↔A a
theorem Bs.below {w w':World} {base b q mb n:Nat} {C:List Value} {sv:Value} {A:Int->Prop} (H:Bs w base b q mb n C sv A) (hb:bc w w'):Bs w' base b q mb n C sv A:=by
 obtain ⟨h,F,n',h1,h2⟩:=H
 exact ⟨h,F,n',h1.below hb,h2⟩
theorem placed_mem {h:List Int} {F:Int->Option Int} (H:Placed h F) (a:Int):(F a).isSome=true↔a∈h:=by
 constructor
 . intro e
   cases q:F a with
   | none => rw [q] at e; cases e
   | some k => obtain ⟨m, _, hm⟩ := H.2.1 a k q; exact List.mem_of_getElem? hm
 . intro e
   obtain ⟨k,hk,rfl⟩:=List.getElem_of_mem e
   rw [H.1 k hk];rfl
open Classical in
theorem has_any (base b q mb n:Nat) (C:List Value) (sv:Value) (A:Int->Prop) (x:Int) (hx: -1048576<=x/\x<1048576) (w:World) (H:Bs w base b q mb n C sv A) :
 Calls Tryz.prog 119 #[.pointer (some ⟨b,q,none⟩),.int .i64 x] w fun e w'=>e=.returned (.bool (decide (A x)))/\w'=w:=by
 obtain ⟨h,F,n',hB,hP,_,_,hA⟩:=H
 have lk:=hB.mp.look (k:=x) (wf64 (by omega) (by omega))
 have e:(F x).isSome=decide (A x):=by
  rw [Bool.eq_iff_iff,placed_mem hP,hA];simp
 rw [e] at lk
 have c0:w.cell? ⟨b,q,none⟩=some (.map (some mb)):=by rw [hB.blk.cell,hB.cm]
 have lb:=blk_lt hB.blk
 generalize (F x).getD 0=v at lk
 generalize decide (A x)=z at lk |-
 clear hB hP hA e
 go_enter Tryz.func119,Tryz.ntmps119
 go_wp2_with fail
 go_ret
 exact ⟨rfl,rfl⟩
theorem add_any (base b q mb n:Nat) (C:List Value) (sv:Value) (A:Int->Prop) (x:Int) (hx:0<=x/\x<1048576) (hn:n<1048576) (w:World) (hB:base<=w.heap.size) (H:Bs w base b q mb n C sv A) (nA: ¬ A x) :
 Calls Tryz.prog 121 #[.pointer (some ⟨b,q,none⟩),.int .i64 x] w fun e w'=> ∃ sv',e=.returned (.tuple #[])/\Bs w' base b q mb (n+1) (C.set (q+1) sv') sv' (fun a=>A a\/a=x)/\Kf (fun k=>k=b\/k=mb\/sv.ownBlock=some k) w w'/\(sv'.ownBlock=sv.ownBlock\/ ∃ g,sv'.ownBlock=some g/\w.heap.size<=g):=by
 obtain ⟨h,F,n',hBl,hP,hH,⟨hl,hn'⟩,hA⟩:=H
 have fx:F x=none:=by
  cases q:F x with
  | none => rfl
  | some k => exact absurd ((hA x).1 ((placed_mem hP x).1 (by rw [q]; rfl))) nA
 have PC:=hpush_any base b q mb n' C sv h F x hx (by unfold maxLen;omega) (by omega) w hBl hP hB fx
 have PC':Hid _:=PC
 have MM:Hid (∀ a,a∈upL (h++[x]) h.length↔(A a\/a=x)):=fun a=>by
  rw [up_mem _ _ (by simp),List.mem_append,List.mem_singleton,hA]
 have HH:Hid (HeapTo (upL (h++[x]) h.length) (upL (h++[x]) h.length).length):=by
  show HeapTo _ _
  have:=push_heap h x hH
  rw [up_len];simpa using this
 have LL:Hid ((upL (h++[x]) h.length).length<=n+1):=by show _<=_;rw [up_len];simp;omega
 clear PC hBl hP hA hH fx nA
 go_enter Tryz.func121,Tryz.ntmps121
 go_wp2_with fail
 refine Calls.mono PC'.out ?_
 rintro e u1 ⟨sv',F',rfl,p1,p2,p3,p4⟩
 have PP:Hid (Bs u1 base b q mb (n+1) (C.set (q+1) sv') sv' (fun a=>A a\/a=x)/\Kf (fun k=>k=b\/k=mb\/sv.ownBlock=some k) w u1/\(sv'.ownBlock=sv.ownBlock\/ ∃ g,sv'.ownBlock=some g/\w.heap.size<=g)):=⟨⟨_,F',_,p1,p2,HH.out,⟨LL.out,by omega⟩,MM.out⟩,p3,p4⟩
 clear p1 p2 p3 p4
 go_wp2_with fail
 go_end0
 exact ⟨sv',rfl,PP.out⟩
theorem drop_any (base b q mb n:Nat) (C:List Value) (sv:Value) (A:Int->Prop) (x:Int) (hn:n<=1048576) (w:World) (H:Bs w base b q mb n C sv A) (aA:A x) :
 Calls Tryz.prog 120 #[.pointer (some ⟨b,q,none⟩),.int .i64 x] w fun e w'=> ∃ sv',e=.returned (.tuple #[])/\Bs w' base b q mb n (C.set (q+1) sv') sv' (fun a=>A a/\a≠x)/\Kf (fun k=>k=b\/k=mb\/sv.ownBlock=some k) w w'/\sv'.ownBlock=sv.ownBlock:=by
 obtain ⟨h,F,n0,hBl,hP,hH,⟨hl,hn0⟩,hA⟩:=H
 obtain ⟨i,hi,hix⟩:=List.getElem_of_mem ((hA x).2 aA)
 have fx:F x=some (i:Int):=by rw [<- hix];exact hP.1 i hi
 have hx:=hP.2.2 x ((hA x).2 aA)
 have lk:=hBl.mp.look1 (k:=x) (wf64 (by omega) (by omega))
 rw [fx] at lk
 have RC:=hrem_any base b q mb n0 C sv h F i hi (by unfold maxLen;omega) (by omega) w hBl hP
 rw [hix] at RC
 have RC':Hid _:=RC
 have c0:w.cell? ⟨b,q,none⟩=some (.map (some mb)):=by rw [hBl.blk.cell,hBl.cm]
 have lb:=blk_lt hBl.blk
 have RS:=rem_split h i hi
 rw [hix] at RS
 have lr:(remL h i).length+1=h.length:=by have:=congrArg List.length RS;rw [remH_len] at this;simp at this;omega
 have NX:Hid (∀ k m:Nat,k≠m->(remH h i)[k]? =some x->(remH h i)[m]? =some x->False):=fun k m km=>hP.nd.rem hi k m x km
 have nx:x∉remL h i:=fun q=>by
  obtain ⟨k,hk,hkx⟩:=List.getElem_of_mem q
  have e1:(remH h i)[k]? =some x:=by rw [RS,List.getElem?_append_left hk,List.getElem?_eq_getElem hk,hkx]
  have e2:(remH h i)[(remL h i).length]? =some x:=by rw [RS];simp
  exact NX.out k (remL h i).length (by omega) e1 e2
 have MM:Hid (∀ a,a∈remL h i↔(A a/\a≠x)):=fun a=>by
  have e1:=remH_mem h i hi a
  rw [RS,List.mem_append,List.mem_singleton,hA] at e1
  constructor
  . intro q;exact ⟨e1.1 (Or.inl q),fun e=>nx (by rw [<- e];exact q)⟩
  . rintro ⟨q1,q2⟩
    rcases e1.2 q1 with r | r
    . exact r
    . exact absurd r q2
 have HH:Hid (HeapTo (remL h i) (remL h i).length):=by
  show HeapTo _ _
  have:=rem_heap h i hi hH
  intro k k0 km
  have g: ∀ k,k<(remL h i).length->(remH h i).getD k 0=(remL h i).getD k 0:=fun k hk=>by rw [RS,List.getD_eq_getElem?_getD,List.getElem?_append_left hk,<- List.getD_eq_getElem?_getD]
  have:=this k k0 (by omega)
  rw [g _ (by omega),g _ km] at this
  exact this
 have LL:Hid ((remL h i).length<=n):=by show _<=_;omega
 clear RC hBl hP hA hH fx aA hix RS nx NX
 go_enter Tryz.func120,Tryz.ntmps120
 go_wp2_with fail
 refine Calls.mono RC'.out ?_
 rintro e u1 ⟨sv',n1,F',rfl,p0,p1,p2,p3,p4⟩
 have PP:Hid (Bs u1 base b q mb n (C.set (q+1) sv') sv' (fun a=>A a/\a≠x)/\Kf (fun k=>k=b\/k=mb\/sv.ownBlock=some k) w u1/\sv'.ownBlock=sv.ownBlock):=⟨⟨_,F',_,p1,p2,HH.out,⟨LL.out,by omega⟩,MM.out⟩,p3,p4⟩
 clear p0 p1 p2 p3 p4
 go_wp2_with fail
 go_end0
 exact ⟨sv',rfl,PP.out⟩
theorem low_any (base b q mb n:Nat) (C:List Value) (sv:Value) (A:Int->Prop) (hn:n<=1048576) (w:World) (H:Bs w base b q mb n C sv A) (ne: ∃ a,A a) :
 Calls Tryz.prog 124 #[.pointer (some ⟨b,q,none⟩)] w fun e w'=> ∃ sv' x,e=.returned (.int .i64 x)/\(A x/\ ∀ a,A a->x<=a)/\Bs w' base b q mb n (C.set (q+1) sv') sv' (fun a=>A a/\a≠x)/\Kf (fun k=>k=b\/k=mb\/sv.ownBlock=some k) w w'/\sv'.ownBlock=sv.ownBlock:=by
 have H':=H
 obtain ⟨h,F,n0,hBl,hP,hH,⟨hl,hn0⟩,hA⟩:=H
 obtain ⟨a0,ha0⟩:=ne
 have l0:0<h.length:=List.length_pos_of_mem ((hA a0).2 ha0)
 obtain ⟨p,c,hv,rd⟩:=hBl.read
 obtain ⟨g,rfl,bg,lg,r0⟩:=rd 0 l0
 obtain ⟨x,hx⟩: ∃ x,h[0]=x:=⟨_,rfl⟩
 have Ax:A x:=by rw [<- hx];exact (hA _).1 (List.getElem_mem l0)
 have least: ∀ a,A a->x<=a:=fun a ha=>by
  obtain ⟨k,hk,hka⟩:=List.getElem_of_mem ((hA a).2 ha)
  have:=heap_least h hH k hk
  rw [getD_at h 0 l0,getD_at h k hk,hx,hka] at this
  exact this
 have DC:=drop_any base b q mb n C sv A x hn w H' Ax
 have DC':Hid _:=DC
 have AX:Hid (A x/\ ∀ a,A a->x<=a):=⟨Ax,least⟩
 rw [hx] at r0
 have c1:w.cell? ⟨b,q+1,none⟩=some (.slice (some ⟨g,0,none⟩) h.length c):=by rw [hBl.blk.cell,hBl.cs,hv]
 have lb:=blk_lt hBl.blk
 obtain ⟨m,hm⟩: ∃ m,h.length=m+1:=⟨h.length-1,by omega⟩
 rw [hm] at c1
 have d0:decide ((0:Int)<(m:Int)+1)=true:=decide_eq_true (by omega)
 clear DC hBl hP hA hH H' rd hv hx l0 Ax least ha0 hl hn0 hm
 go_enter Tryz.func124,Tryz.ntmps124
 go_wp2_with fail
 refine Calls.mono DC'.out ?_
 rintro e u1 ⟨sv',rfl,p1,p2,p3⟩
 have PP:Hid (Bs u1 base b q mb n (C.set (q+1) sv') sv' (fun a=>A a/\a≠x)/\Kf (fun k=>k=b\/k=mb\/sv.ownBlock=some k) w u1/\sv'.ownBlock=sv.ownBlock):=⟨p1,p2,p3⟩
 clear p1 p2 p3
 go_wp2_with fail
 go_ret
 exact ⟨sv',x,rfl,AX.out,PP.out⟩
theorem isorder_any (o:Int) (w:World):Calls Tryz.prog 123 #[.int .i64 o] w fun e w'=>e=.returned (.bool (decide (0<=o/\o<=10)))/\w'=w:=by
 by_cases c1:0<=o
 . have d1:decide (0<=o)=true:=decide_eq_true c1
   by_cases c2:o<=10
   . have d2:decide (o<=10)=true:=decide_eq_true c2
     have d3:decide (0<=o/\o<=10)=true:=decide_eq_true ⟨c1,c2⟩
     rw [d3]
     clear c1 c2 d3
     go_enter Tryz.func123,Tryz.ntmps123
     go_wp2_with fail
     go_ret
     exact ⟨rfl,rfl⟩
   . have d2:decide (o<=10)=false:=decide_eq_false c2
     have d3:decide (0<=o/\o<=10)=false:=decide_eq_false (fun h=>c2 h.2)
     rw [d3]
     clear c1 c2 d3
     go_enter Tryz.func123,Tryz.ntmps123
     go_wp2_with fail
     go_ret
     exact ⟨rfl,rfl⟩
 . have d1:decide (0<=o)=false:=decide_eq_false c1
   have d3:decide (0<=o/\o<=10)=false:=decide_eq_false (fun h=>c1 h.1)
   rw [d3]
   clear c1 d3
   go_enter Tryz.func123,Tryz.ntmps123
   go_wp2_with fail
   go_ret
   exact ⟨rfl,rfl⟩
theorem Bs.mono {w:World} {base b q mb N N':Nat} {C:List Value} {sv:Value} {A:Int->Prop} (H:Bs w base b q mb N C sv A) (h:N<=N'):Bs w base b q mb N' C sv A:=by
 obtain ⟨h',F,n,h1,h2,h3,h4,h5⟩:=H
 exact ⟨h',F,n,h1,h2,h3,⟨by omega,by omega⟩,h5⟩
theorem blen_any (base b q mb n:Nat) (C:List Value) (sv:Value) (A:Int->Prop) (w:World) (H:Bs w base b q mb n C sv A) :
 ∃ m:Nat,(m=0↔ ∀ a,¬ A a)/\m<=n/\Hid (Calls Tryz.prog 85 #[.pointer (some ⟨b,q,none⟩)] w fun e w'=>e=.returned (.int .i64 m)/\w'=w):=by
 obtain ⟨h,F,n',h1,h2,h3,h4,h5⟩:=H
 refine ⟨h.length,?_,h4.1,len_any base b q mb n' C sv h F w h1⟩
 constructor
 . intro e a ha
   have:=List.length_pos_of_mem ((h5 a).2 ha)
   omega
 . intro e
   cases h with
   | nil => rfl
   | cons x r => exact absurd ((h5 x).1 (by simp)) (e x)
structure Bd (w:World) (base b gb N:Nat) (C:List Value) (mbs:Nat->Nat) (svs:Nat->Value) (A:Nat->Int->Prop) (G:Int->Option Int):Prop where
 bs: ∀ o,o<11->Bs w base b (o*2) (mbs o) N C (svs o) (A o)
 cg:C[22]? =some (.map (some gb))
 gm: ∃ n,n<=N/\MapC w gb n n G
 dm: ∀ o o',o<11->o'<11->o≠o'->mbs o≠mbs o'
 dg: ∀ o,o<11->mbs o≠gb
 ds: ∀ o o',o<11->o'<11->o≠o'-> ∀ g,(svs o).ownBlock=some g->(svs o').ownBlock≠some g
 gb:b≠gb/\gb<base
 bb:base<=w.heap.size
def upd {α :Type} (f:Nat-> α) (o:Nat) (x: α):Nat-> α :=fun k=>if k=o then x else f k
theorem upd_same {α :Type} (f:Nat-> α) (o:Nat) (x: α):upd f o x o=x:=if_pos rfl
theorem upd_other {α :Type} (f:Nat-> α) (o:Nat) (x: α) (k:Nat) (h:k≠o):upd f o x k=f k:=if_neg h
theorem Bd.turn {w w':World} {base b gb N N':Nat} {C:List Value} {mbs:Nat->Nat} {svs:Nat->Value} {A:Nat->Int->Prop} {G:Int->Option Int} (H:Bd w base b gb N C mbs svs A G) (o:Nat) (ho:o<11) {sv':Value} {A':Int->Prop} (hN:N<=N')
 (h1:Bs w' base b (o*2) (mbs o) N' (C.set (o*2+1) sv') sv' A') (hk:Kf (fun k=>k=b\/k=mbs o\/(svs o).ownBlock=some k) w w') (hs:sv'.ownBlock=(svs o).ownBlock\/ ∃ g,sv'.ownBlock=some g/\w.heap.size<=g) :
 Bd w' base b gb N' (C.set (o*2+1) sv') mbs (upd svs o sv') (upd A o A') G:=by
 obtain ⟨h0,F0,n0,bl0,_⟩:=H.bs o ho
 obtain ⟨hh,F1,n1,bl1,hr1⟩:=h1
 have base_of: ∀ k,k<11-> ∀ g,(svs k).ownBlock=some g->base<=g/\g<w.heap.size:=fun k hk g e=>by
  obtain ⟨_,_,_,bl,_⟩:=H.bs k hk
  exact row_lt bl.own g e
 have mlt: ∀ k,k<11->mbs k<base:=fun k hk=>by obtain ⟨_,_,_,bl,_⟩:=H.bs k hk;exact bl.lb.2
 have bm: ∀ k,k<11->b≠mbs k:=fun k hk=>by obtain ⟨_,_,_,bl,_⟩:=H.bs k hk;exact bl.ne
 have keep: ∀ j,j<base->j≠b->j≠mbs o->w'.heap[j]? =w.heap[j]? :=fun j hj n1 n2=>hk.block j (nla hj H.bb) (fun e=>by
  rcases e with e | e | e
  . exact n1 e
  . exact n2 e
  . have:=(base_of o ho j e).1;omega)
 refine ⟨fun k hk'=> ?_,?_,?_,H.dm,H.dg,fun a c ha hc hac g e e'=> ?_,H.gb,Nat.le_trans H.bb hk.size⟩
 . by_cases c:k=o
   . subst c
     rw [upd_same,upd_same];exact ⟨hh,F1,n1,bl1,hr1⟩
   . rw [upd_other _ _ _ _ c,upd_other _ _ _ _ c]
     obtain ⟨h2,F2,n2,bl2,p2,q2,r2,s2⟩:=H.bs k hk'
     refine ⟨h2,F2,n2,⟨bl1.blk,?_,?_,?_,bl2.mp.block (keep _ (mlt k hk') (fun e=>bm k hk' e.symm) (H.dm k o hk' ho c)),bl2.ne,bl2.nb,bl2.lb⟩,p2,q2,⟨by omega,by omega⟩,s2⟩
     . rw [List.getElem?_set_ne (by omega)];exact bl2.cm
     . rw [List.getElem?_set_ne (by omega)];exact bl2.cs
     . refine row_keep bl2.own (fun g e=>hk.block g (base_of k hk' g e).2 (fun e2=> ?_))
       have lo:=(base_of k hk' g e).1
       rcases e2 with e2 | e2 | e2
       . have:=bl2.lb.1;omega
       . have:=mlt o ho;omega
       . exact H.ds k o hk' ho c g e e2
 . rw [List.getElem?_set_ne (by omega)];exact H.cg
 . obtain ⟨n,hn,hm⟩:=H.gm
   exact ⟨n,by omega,hm.block (keep _ H.gb.2 (fun e=>H.gb.1 e.symm) (fun e=>H.dg o ho e.symm))⟩
 . by_cases c1:a=o
   . subst c1
     rw [upd_same] at e
     rw [upd_other _ _ _ _ (fun q=>hac q.symm)] at e'
     rcases hs with s | ⟨g',s,lg⟩
     . exact H.ds a c ha hc hac g (s.symm.trans e) e'
     . rw [s] at e
       have:=sia e
       have:=(base_of c hc g e').2
       omega
   . rw [upd_other _ _ _ _ c1] at e
     by_cases c2:c=o
     . subst c2
       rw [upd_same] at e'
       rcases hs with s | ⟨g',s,lg⟩
       . exact H.ds a c ha hc hac g e (s.symm.trans e')
       . rw [s] at e'
         have:=sia e'
         have:=(base_of a ha g e).2
         omega
     . rw [upd_other _ _ _ _ c2] at e'
       exact H.ds a c ha hc hac g e e'
theorem Bd.below {w w':World} {base b gb N:Nat} {C:List Value} {mbs:Nat->Nat} {svs:Nat->Value} {A:Nat->Int->Prop} {G:Int->Option Int} (H:Bd w base b gb N C mbs svs A G) (hb:bc w w'):Bd w' base b gb N C mbs svs A G:=by
 obtain ⟨n,hn,hm⟩:=H.gm
 exact ⟨fun o ho=>(H.bs o ho).below hb,H.cg,⟨n,hn,hm.block (hb.block gb hm.lt)⟩,H.dm,H.dg,H.ds,H.gb,Nat.le_trans H.bb hb.size⟩
theorem Bd.blk {w:World} {base b gb N:Nat} {C:List Value} {mbs:Nat->Nat} {svs:Nat->Value} {A:Nat->Int->Prop} {G:Int->Option Int} (H:Bd w base b gb N C mbs svs A G):Blk w b C 190/\b<base:=by
 obtain ⟨_,_,_,bl,_⟩:=H.bs 0 (by omega)
 exact ⟨bl.blk,bl.lb.1⟩
theorem Bd.give {w w':World} {base b gb N N':Nat} {C:List Value} {mbs:Nat->Nat} {svs:Nat->Value} {A:Nat->Int->Prop} {G G':Int->Option Int} (H:Bd w base b gb N C mbs svs A G) (hN:N<=N') (hg:w.grownBy w' (some gb)) (hm: ∃ n,n<=N'/\MapC w' gb n n G'):Bd w' base b gb N' C mbs svs A G':=by
 refine ⟨fun o ho=> ?_,H.cg,hm,H.dm,H.dg,H.ds,H.gb,Nat.le_trans H.bb hg.size⟩
 obtain ⟨h2,F2,n2,bl2,p2,q2,r2,s2⟩:=H.bs o ho
 have kp: ∀ j,j<w.heap.size->j≠gb->w'.heap[j]? =w.heap[j]? :=fun j hj hn=>hg.block j hj (fun e=>hn (sia e))
 refine ⟨h2,F2,n2,⟨(kp b (blk_lt bl2.blk) H.gb.1).trans bl2.blk,bl2.cm,bl2.cs,row_keep bl2.own (fun g e=> ?_),bl2.mp.block (kp _ bl2.mp.lt (H.dg o ho)),bl2.ne,bl2.nb,bl2.lb⟩,p2,q2,⟨by omega,by omega⟩,s2⟩
 have:=row_lt bl2.own g e
 exact kp g this.2 (by have:=H.gb.2;omega)
def Ob (b gb:Nat) (mbs:Nat->Nat) (svs:Nat->Value) (k:Nat):Prop:=k=b\/k=gb\/ ∃ o,o<11/\(k=mbs o\/(svs o).ownBlock=some k)
def Bt (w W:World) (base b gb:Nat) (mbs:Nat->Nat) (svs:Nat->Value) (N:Nat) (A:Nat->Int->Prop) (G:Int->Option Int):Prop :=
 ∃ C' svs',Bd W base b gb N C' mbs svs' A G/\Kf (Ob b gb mbs svs) w W/\ ∀ o,o<11->(svs' o).ownBlock=(svs o).ownBlock\/ ∃ g,(svs' o).ownBlock=some g/\w.heap.size<=g
theorem Bt.refl {w:World} {base b gb N:Nat} {C:List Value} {mbs:Nat->Nat} {svs:Nat->Value} {A:Nat->Int->Prop} {G:Int->Option Int} (H:Bd w base b gb N C mbs svs A G):Bt w w base b gb mbs svs N A G:=⟨C,svs,H,Kf.refl _ _,fun _ _=>Or.inl rfl⟩
section
variable {w W:World} {base b gb N:Nat} {mbs:Nat->Nat} {svs:Nat->Value} {A:Nat->Int->Prop} {G:Int->Option Int}
theorem Bt.below (H:Bt w W base b gb mbs svs N A G) {W':World} (hb:bc W W'):Bt w W' base b gb mbs svs N A G:=by
 obtain ⟨C,s,h1,h2,h3⟩:=H
 exact ⟨C,s,h1.below hb,h2.trans (Kf.below hb),h3⟩
theorem Bt.turn {w W W':World} {base b gb N N':Nat} {C:List Value} {mbs:Nat->Nat} {svs s1:Nat->Value} {A:Nat->Int->Prop} {G:Int->Option Int} (h1:Bd W base b gb N C mbs s1 A G) (h2:Kf (Ob b gb mbs svs) w W) (h3: ∀ o,o<11->(s1 o).ownBlock=(svs o).ownBlock\/ ∃ g,(s1 o).ownBlock=some g/\w.heap.size<=g)
 (o:Nat) (ho:o<11) {sv':Value} {A':Int->Prop} (hN:N<=N') (hB:Bs W' base b (o*2) (mbs o) N' (C.set (o*2+1) sv') sv' A') (hk:Kf (fun k=>k=b\/k=mbs o\/(s1 o).ownBlock=some k) W W') (hs:sv'.ownBlock=(s1 o).ownBlock\/ ∃ g,sv'.ownBlock=some g/\W.heap.size<=g):Bt w W' base b gb mbs svs N' (upd A o A') G:=by
 refine ⟨_,_,h1.turn o ho hN hB hk hs,h2.next hk (fun j hj e=> ?_),fun k hk'=> ?_⟩
 . rcases e with e | e | e
   . exact Or.inl e
   . exact Or.inr (Or.inr ⟨o,ho,Or.inl e⟩)
   . rcases h3 o ho with q | ⟨g,q,lg⟩
     . exact Or.inr (Or.inr ⟨o,ho,Or.inr (q.symm.trans e)⟩)
     . rw [q] at e;have:=sia e;omega
 . by_cases c:k=o
   . subst c
     rw [upd_same]
     rcases hs with q | ⟨g,q,lg⟩
     . rw [q];exact h3 k hk'
     . exact Or.inr ⟨g,q,Nat.le_trans h2.size lg⟩
   . rw [upd_other _ _ _ _ c];exact h3 k hk'
theorem Bt.add (H:Bt w W base b gb mbs svs N A G) (o:Nat) (ho:o<11) (x:Int) (hx:0<=x/\x<1048576) (hn:N<1048576) (nA: ¬ A o x) :
 Calls Tryz.prog 121 #[.pointer (some ⟨b,o*2,none⟩),.int .i64 x] W fun e w'=>e=.returned (.tuple #[])/\Bt w w' base b gb mbs svs (N+1) (upd A o (fun a=>A o a\/a=x)) G:=by
 obtain ⟨C,s,h1,h2,h3⟩:=H
 refine (add_any base b (o*2) (mbs o) N C (s o) (A o) x hx hn W h1.bb (h1.bs o ho) nA).mono ?_
 rintro e w' ⟨sv',he,p1,p2,p3⟩
 exact ⟨he,Bt.turn h1 h2 h3 o ho (by omega) p1 p2 p3⟩
theorem Bt.drop (H:Bt w W base b gb mbs svs N A G) (o:Nat) (ho:o<11) (x:Int) (hn:N<=1048576) (aA:A o x) :
 Calls Tryz.prog 120 #[.pointer (some ⟨b,o*2,none⟩),.int .i64 x] W fun e w'=>e=.returned (.tuple #[])/\Bt w w' base b gb mbs svs N (upd A o (fun a=>A o a/\a≠x)) G:=by
 obtain ⟨C,s,h1,h2,h3⟩:=H
 refine (drop_any base b (o*2) (mbs o) N C (s o) (A o) x hn W (h1.bs o ho) aA).mono ?_
 rintro e w' ⟨sv',he,p1,p2,p3⟩
 exact ⟨he,Bt.turn h1 h2 h3 o ho (Nat.le_refl _) p1 p2 (Or.inl p3)⟩
theorem Bt.low (H:Bt w W base b gb mbs svs N A G) (o:Nat) (ho:o<11) (hn:N<=1048576) (ne: ∃ a,A o a) :
 Calls Tryz.prog 124 #[.pointer (some ⟨b,o*2,none⟩)] W fun e w'=> ∃ x,e=.returned (.int .i64 x)/\(A o x/\ ∀ a,A o a->x<=a)/\Bt w w' base b gb mbs svs N (upd A o (fun a=>A o a/\a≠x)) G:=by
 obtain ⟨C,s,h1,h2,h3⟩:=H
 refine (low_any base b (o*2) (mbs o) N C (s o) (A o) hn W (h1.bs o ho) ne).mono ?_
 rintro e w' ⟨sv',x,he,p0,p1,p2,p3⟩
 exact ⟨x,he,p0,Bt.turn h1 h2 h3 o ho (Nat.le_refl _) p1 p2 (Or.inl p3)⟩
open Classical in
theorem Bt.has (H:Bt w W base b gb mbs svs N A G) (o:Nat) (ho:o<11) (x:Int) (hx: -1048576<=x/\x<1048576) :
 Calls Tryz.prog 119 #[.pointer (some ⟨b,o*2,none⟩),.int .i64 x] W fun e w'=>e=.returned (.bool (decide (A o x)))/\w'=W:=by
 obtain ⟨C,s,h1,h2,h3⟩:=H
 exact has_any base b (o*2) (mbs o) N C (s o) (A o) x hx W (h1.bs o ho)
theorem Bt.len (H:Bt w W base b gb mbs svs N A G) (o:Nat) (ho:o<11): ∃ m:Nat,(m=0↔ ∀ a,¬ A o a)/\m<=N/\Hid (Calls Tryz.prog 85 #[.pointer (some ⟨b,o*2,none⟩)] W fun e w'=>e=.returned (.int .i64 m)/\w'=W):=by
 obtain ⟨C,s,h1,h2,h3⟩:=H
 exact blen_any base b (o*2) (mbs o) N C (s o) (A o) W (h1.bs o ho)
theorem Bt.note (H:Bt w W base b gb mbs svs N A G) {x v:Int} (hx:(Lit.int .i64 x).wf=true) (hv:(Lit.int .i64 v).wf=true) (hn:N<maxLen): ∃ w',W.cell? ⟨b,22,none⟩=some (.map (some gb))/\b<W.heap.size/\(Instr.mapUpdate 31 (.map (some gb)) (.int .i64 x) (.int .i64 v)).run Tryz.prog W=.ok () w'/\Bt w w' base b gb mbs svs (N+1) A (setF G x (some v)):=by
 obtain ⟨C,s,h1,h2,h3⟩:=H
 obtain ⟨n,hn',hm⟩:=h1.gm
 obtain ⟨w',r,m',g'⟩:=hm.set (by omega) hx hv
 have bk:=h1.blk
 refine ⟨w',by rw [bk.1.cell,h1.cg],blk_lt bk.1,r,C,s,h1.give (by omega) g' ⟨_,?_,m'.tight⟩,h2.trans (Kf.grown g' (Or.inr (Or.inl rfl))),h3⟩
 split <;> omega
def takeA (A:Nat->Int->Prop) (f:Nat) (x:Int) (k:Nat):Nat->Int->Prop:=fun o a=>(A o a/\ ¬ (o=f/\a=x))\/(k<=o/\o<f/\a=x+2 ^ o)
structure FInv (A:Nat->Int->Prop):Prop where
 bd: ∀ o a,o<11->A o a->0<=a/\a+2 ^ o<=1048576
 dj: ∀ o a o' a',o<11->o'<11->A o a->A o' a'->(o=o'/\a=a')\/a+2 ^ o<=a'\/a'+2 ^ o'<=a
theorem two_lt {k f:Nat} (h:k<f):(2:Int) ^ k*2<=2 ^ f:=by
 have:(2:Int) ^ (k+1)<=2 ^ f:=by exact_mod_cast Nat.pow_le_pow_right (by omega) h
 rw [Int.pow_succ] at this;exact this
theorem two_pos (k:Nat):(0:Int)<2 ^ k:=Int.pow_pos (by omega)
theorem take_free {A:Nat->Int->Prop} (H:FInv A) {f k:Nat} {x:Int} (hf:f<11) (hx:A f x) (hk:k<f): ¬ takeA A f x (k+1) k (x+2 ^ k):=by
 rintro (⟨a,_⟩ | ⟨a,_⟩)
 . have p:=two_lt hk
   have q:=two_pos k
   rcases H.dj k _ f x (by omega) hf a hx with ⟨e,_⟩ | e | e
   . omega
   . omega
   . omega
 . omega
theorem take_step (A:Nat->Int->Prop) (f k:Nat) (x:Int) (hk:k<f):upd (takeA A f x (k+1)) k (fun a=>takeA A f x (k+1) k a\/a=x+2 ^ k)=takeA A f x k:=by
 funext o a
 unfold upd takeA
 by_cases c:o=k
 . subst c
   rw [if_pos rfl]
   apply propext
   constructor
   . rintro ((q | ⟨q,_⟩) | q)
     . exact Or.inl q
     . omega
     . exact Or.inr ⟨Nat.le_refl _,hk,q⟩
   . rintro (q | ⟨_,_,q⟩)
     . exact Or.inl (Or.inl q)
     . exact Or.inr q
 . rw [if_neg c]
   apply propext
   constructor
   . rintro (q | ⟨q1,q2,q3⟩)
     . exact Or.inl q
     . exact Or.inr ⟨by omega,q2,q3⟩
   . rintro (q | ⟨q1,q2,q3⟩)
     . exact Or.inl q
     . exact Or.inr ⟨by omega,q2,q3⟩
theorem take_first (A:Nat->Int->Prop) (f:Nat) (x:Int):upd A f (fun a=>A f a/\a≠x)=takeA A f x f:=by
 funext o a
 unfold upd takeA
 by_cases c:o=f
 . subst c
   rw [if_pos rfl]
   apply propext
   constructor
   . rintro ⟨q1,q2⟩;exact Or.inl ⟨q1,fun e=>q2 e.2⟩
   . rintro (⟨q1,q2⟩ | ⟨_,q,_⟩)
     . exact ⟨q1,fun e=>q2 ⟨rfl,e⟩⟩
     . omega
 . rw [if_neg c]
   apply propext
   constructor
   . intro q;exact Or.inl ⟨q,fun e=>c e.1⟩
   . rintro (⟨q,_⟩ | ⟨q1,q2,_⟩)
     . exact q
     . omega
theorem Bt.mono {w W:World} {base b gb N N':Nat} {mbs:Nat->Nat} {svs:Nat->Value} {A:Nat->Int->Prop} {G:Int->Option Int} (H:Bt w W base b gb mbs svs N A G) (hN:N<=N'):Bt w W base b gb mbs svs N' A G:=by
 obtain ⟨C,s,h1,h2,h3⟩:=H
 obtain ⟨n,hn,hm⟩:=h1.gm
 exact ⟨C,s,⟨fun o ho=>(h1.bs o ho).mono hN,h1.cg,⟨n,by omega,hm⟩,h1.dm,h1.dg,h1.ds,h1.gb,h1.bb⟩,h2,h3⟩
theorem take_any (base b gb N:Nat) (mbs:Nat->Nat) (svs:Nat->Value) (A:Nat->Int->Prop) (G:Int->Option Int) (ord:Nat) (ho:ord<11) (hn:N+20<1048576) (w:World) (H:Bt w w base b gb mbs svs N A G) (hI:FInv A) :
 Calls Tryz.prog 106 #[.pointer (some ⟨b,0,none⟩),.int .i64 ord] w fun e w'=>(e=.returned (.tuple #[.int .i64 0,.int .i64 7])/\w'=w/\ ∀ o,ord<=o->o<11-> ∀ a,¬ A o a) \/
  ∃ (f:Nat) (x:Int),e=.returned (.tuple #[.int .i64 x,.int .i64 0])/\(ord<=f/\f<11)/\(∀ o,ord<=o->o<f-> ∀ a,¬ A o a)/\(A f x/\ ∀ a,A f a->x<=a)/\Bt w w' base b gb mbs svs (N+20) (takeA A f x ord) (setF G x (some (ord:Int))):=by
 have IO:Hid (∀ (o:Nat) (W:World),Calls Tryz.prog 123 #[.int .i64 o] W fun e w'=>e=.returned (.bool (decide (o<11)))/\w'=W):=fun o W=>by
  have q:=isorder_any (o:Int) W
  rw [show (decide ((0:Int)<=(o:Int)/\(o:Int)<=10))=decide (o<11) by rw [decide_eq_decide];omega] at q
  exact q
 have HH:Hid (Bt w w base b gb mbs svs N A G):=H
 have HI:Hid (FInv A):=hI
 have LE':=fun o ho=>HH.out.len o ho
 have LL:Hid (∀ o,o<11-> ∃ m:Nat,(m=0↔ ∀ a,¬ A o a)/\m<=N/\Hid (Calls Tryz.prog 85 #[.pointer (some ⟨b,o*2,none⟩)] w fun e w'=>e=.returned (.int .i64 m)/\w'=w)):=LE'
 have io1:Hid (∀ W:World,Calls Tryz.prog 123 #[.int .i64 ord] W fun e w'=>e=.returned (.bool true)/\w'=W):=fun W=>by have q:=IO.out ord W;rw [decide_eq_true ho] at q;exact q
 clear H hI LE'
 go_enter Tryz.func106,Tryz.ntmps106
 go_wp2_with fail
 refine (io1.out _).mono ?_
 rintro e w' ⟨rfl,rfl⟩
 go_wp2_with fail
 go_loopw [6] (fun v W=> ∃ f:Nat,ord<=f/\f<=11/\v=.int .i64 f/\Hid (∀ o,ord<=o->o<f-> ∀ a,¬ A o a)/\W=w') (fun v _=>11-(intOf v).toNat)
 case atStart=>exact ⟨ord,Nat.le_refl _,by omega,rfl,(fun o h1 h2=>by omega),rfl⟩
 case round =>
  obtain ⟨f,hf1,hf2,rfl,hE,rfl⟩:=hrel
  by_cases f11:f<11
  rotate_left
  . have f0:f=11:=by omega
    subst f0
    have iof:Hid (∀ W:World,Calls Tryz.prog 123 #[.int .i64 ((11:Nat):Int)] W fun e w'=>e=.returned (.bool false)/\w'=W):=fun W=>by have q:=IO.out 11 W;rw [decide_eq_false (by omega)] at q;exact q
    clear f11
    go_wp2_with fail
    refine (iof.out _).mono ?_
    rintro e v1 ⟨rfl,rfl⟩
    go_wp2_with fail
    refine (iof.out _).mono ?_
    rintro e v2 ⟨rfl,rfl⟩
    go_wp2_with fail
    go_returns
    exact Or.inl ⟨rfl,rfl,fun o h1 h2=>hE.out o h1 h2⟩
  have iof:Hid (∀ W:World,Calls Tryz.prog 123 #[.int .i64 f] W fun e w'=>e=.returned (.bool true)/\w'=W):=fun W=>by have q:=IO.out f W;rw [decide_eq_true f11] at q;exact q
  obtain ⟨m,hm0,hmN,LC⟩:=LL.out f f11
  have d0:decide ((f:Int)<0)=false:=by simp
  have d1:decide ((f:Int)<11)=true:=kh
  by_cases mz:m=0
  . subst mz
    have hE2:Hid (∀ o,ord<=o->o<f+1-> ∀ a,¬ A o a):=fun o h1 h2=>by
     by_cases c:o=f
     . subst c;exact hm0.1 rfl
     . exact hE.out o h1 (by omega)
    clear hm0 hE
    go_wp2_with fail
    refine (iof.out _).mono ?_
    rintro e v1 ⟨rfl,rfl⟩
    go_wp2_with fail
    refine LC.out.mono ?_
    rintro e v2 ⟨rfl,rfl⟩
    go_wp2_with fail
    go_roundw
    case rel=>exact ⟨f+1,by omega,by omega,by go_num,hE2,trivial⟩
    case measure=>simp [intOf];omega
  have mb0:((m:Int)==0)=false:=kh
  have ne: ∃ a,A f a:=by
   apply bca
   intro q
   exact mz (hm0.2 (fun a ha=>q ⟨a,ha⟩))
  have LW:=HH.out.low f f11 (by omega) ne
  have LW':Hid _:=LW
  clear hm0 ne LW
  go_wp2_with fail
  refine (iof.out _).mono ?_
  rintro e v1 ⟨rfl,rfl⟩
  go_wp2_with fail
  refine LC.out.mono ?_
  rintro e v2 ⟨rfl,rfl⟩
  go_wp2_with fail
  refine (iof.out _).mono ?_
  rintro e v3 ⟨rfl,rfl⟩
  go_wp2_with fail
  refine Calls.mono LW'.out ?_
  rintro e u1 ⟨x,rfl,hx,hB⟩
  rw [take_first] at hB
  have B1:Hid (Bt v3 u1 base b gb mbs svs N (takeA A f x f) G):=hB
  have HX:Hid (A f x/\ ∀ a,A f a->x<=a):=hx
  have bx:=HI.out.bd f x f11 hx.1
  have x0:0<=x:=bx.1
  have XB:Hid (x+2 ^ f<=1048576):=bx.2
  clear hB hx bx LW' LC iof
  go_wp2_with fail
  go_loopw [6] (fun v W=> ∃ k:Nat,ord<=k/\k<=f/\v=.int .i64 k/\Hid (Bt v3 W base b gb mbs svs (N+(f-k)) (takeA A f x k) G)) (fun v _=>(intOf v).toNat)
  case atStart=>exact ⟨f,hf1,Nat.le_refl _,rfl,by rw [Nat.sub_self];exact B1⟩
  case round =>
   clear B1
   obtain ⟨k,hk1,hk2,rfl,hB⟩:=hrel
   by_cases c:ord<k
   . obtain ⟨k',rfl⟩: ∃ k',k=k'+1:=⟨k-1,by omega⟩
     have c1:decide ((ord:Int)<((k'+1:Nat):Int))=true:=kh
     have kf:k'<f:=by omega
     have p2:=two_lt kf
     have p3:=two_pos k'
     have xb:=XB.out
     have hBd:=hB.out.below (below_drew (Below.refl _ _))
     have AC:=hBd.add k' (by omega) (x+2 ^ k') ⟨by omega,by omega⟩ (by omega) (take_free HI.out f11 HX.out.1 kf)
     rw [take_step A f k' x kf,show N+(f-(k'+1))+1=N+(f-k') by omega] at AC
     have e2:wrap64 (x+wrap64 (2 ^ k'))=x+2 ^ k':=by unfold wrap64;omega
     rw [<- e2] at AC
     have AC':Hid _:=AC
     clear AC hB hBd e2
     have e0:decide ((k':Int)<0)=false:=by simp
     have e1:decide ((k':Int)<11)=true:=kh
     clear p2 p3 xb
     go_wp2_with fail
     go_region_with (refine Calls.mono AC'.out ?_;rintro e u2 ⟨rfl,hB2⟩)
     go_wp2_with fail
     go_roundw
     case rel=>exact ⟨k',by omega,by omega,by go_num,hB2⟩
     case measure=>simp [intOf]
   . have ck:k=ord:=by omega
     subst ck
     have c1:decide ((k:Int)<(k:Int))=false:=by simp
     obtain ⟨w9,c22,lb9,r9,B9⟩:=hB.out.note (x:=x) (v:=(k:Int)) (wf64 (by omega) (by have:=XB.out;have:=two_pos f;omega)) (wf64 (by omega) (by omega)) (by unfold maxLen;omega)
     have BB:Hid (Bt v3 w9 base b gb mbs svs (N+(f-k)+1) (takeA A f x k) (setF G x (some (k:Int)))):=B9
     clear hB B9 c
     go_wp2_with fail
     go_returns
     exact Or.inr ⟨f,x,rfl,⟨hf1,f11⟩,hE.out,HX.out,BB.out.mono (by omega)⟩
end
end Go.Proofs.YtgbdnnkkcpkhdaaGreatDoor.Bd
