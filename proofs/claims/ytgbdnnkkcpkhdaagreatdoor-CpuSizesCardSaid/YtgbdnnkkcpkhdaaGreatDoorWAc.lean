import Derived.Test.YtgbdnnkkcpkhdaaGreatDoorMPc
import Derived.Test.YtgbdnnkkcpkhdaaGreatDoorMSc
import Derived.WalkSmall
import Derived.Laws.CopyOwn
import Derived.Laws.Tables
import Derived.Laws.Rows
import Derived.OwnWalk
import Derived.Laws.AppendOwn
import Derived.Laws.MakeOwn
set_option linter.unusedSimpArgs false
set_option linter.unusedVariables false
set_option maxRecDepth 8000
set_option maxHeartbeats 4000000
open Go.ChangeShapes Go.WideShapes Go.ChangeAt Go.RowKit Go.Maps
namespace Go.Proofs.YtgbdnnkkcpkhdaaGreatDoor
def codeV (x u f:Bool):Int:=fl x 2+fl u 4+fl f 16
theorem code_any (x u f:Bool) (w:World):Calls Tryz.prog 64 #[.agg #[.bool x,.bool u,.bool f]] w (re (.int .i64 (codeV x u f)) w):=by
 have o1:bits .or .i64 0 2=2:=by decide
 have o2:bits .or .i64 0 4=4:=by decide
 have o3:bits .or .i64 0 16=16:=by decide
 have o4:bits .or .i64 2 4=6:=by decide
 have o5:bits .or .i64 2 16=18:=by decide
 have o6:bits .or .i64 4 16=20:=by decide
 have o7:bits .or .i64 6 16=22:=by decide
 cases x <;> cases u <;> cases f
 all_goals
  go_enter Tryz.func64,Tryz.ntmps64
  go_wp2
  go_returns
  exact ⟨rfl,baa⟩
def mayV (pw pu px x u f:Bool):Bool:=(!x || pw) && (!u || pu) && (!f || px)
theorem may_any (pw pu px x u f:Bool) (w:World):Calls Tryz.prog 34 #[.agg (sn pw pu px),.agg #[.bool x,.bool u,.bool f]] w (re (.bool (mayV pw pu px x u f)) w):=by
 cases x <;> cases u <;> cases f
 all_goals
  go_enter Tryz.func34,Tryz.ntmps34
  go_wp2
  all_goals
   go_returns
   refine ⟨?_,Go.Joins.below_alloc2 _ _ _⟩
   simp_all [mayV]
theorem grown_of_below' {w w':World} (h:bc w w'):w.grownBy w' none:=⟨h.os,h.tape,h.output,h.size,fun k hk _=>h.block k hk⟩
theorem below_of_grown' {w w':World} (h:w.grownBy w' none):bc w w':=⟨h.os,h.tape,h.output,h.size,fun k hk=>h.block k hk (by simp)⟩
theorem own1 (w:World) (o:Obj):(w.alloc o).heap[w.heap.size]? =some o:=(MapKept.heap_alloc w o).1
theorem own2a (w:World) (o p:Obj):((w.alloc o).alloc p).heap[w.heap.size]? =some o:=((Go.Joins.below_alloc1 (w.alloc o) p).block _ ke).trans (own1 w o)
theorem own2b (w:World) (o p:Obj):((w.alloc o).alloc p).heap[w.heap.size+1]? =some p:=by
 have:=own1 (w.alloc o) p
 rw [World.size_alloc] at this;exact this
theorem own3a (w:World) (o p q:Obj):(((w.alloc o).alloc p).alloc q).heap[w.heap.size]? =some o:=((Go.Joins.below_alloc1 _ q).block _ kl1).trans (own2a w o p)
theorem own3b (w:World) (o p q:Obj):(((w.alloc o).alloc p).alloc q).heap[w.heap.size+1]? =some p:=((Go.Joins.below_alloc1 _ q).block _ kl1).trans (own2b w o p)
theorem own3c (w:World) (o p q:Obj):(((w.alloc o).alloc p).alloc q).heap[w.heap.size+2]? =some q:=by
 have:=own1 ((w.alloc o).alloc p) q
 rw [World.size_alloc,World.size_alloc] at this;exact this
def Rd (w:World) (rb:Nat) (has:Int->Bool) (F:Int) (M:Int->Int) (n:Nat):Prop:=IsRam w 0 rb has F M n/\Tab w
theorem Rd.keep {w w':World} {rb n:Nat} {has:Int->Bool} {F:Int} {M:Int->Int} (h:Rd w rb has F M n) (hb:bc w w'):Rd w' rb has F M n:=⟨h.1.grown (grown_of_below' hb),h.2.keep hb⟩
def stepv (A X:Int) (y0 y1 y2 y3 y4 y5 y6 y7:Bool) (y8 L:Int):Value:=.agg (sb1 A X y0 y1 y2 y3 y4 y5 y6 y7 y8 L)
theorem ldc {rb n:Nat} {has:Int->Bool} {F:Int} {M:Int->Int} (A X:Int) (h0:0<=A) (h1:A<18446744073709551616) (hz:chkG has A 8=0) (hX:ld M A (8:Int).toNat=X) :
 Hid (∀ w:World,Rd w rb has F M n->Calls Tryz.prog 40 #[.pointer (some ⟨rb,0,none⟩),.int .u64 A,.int .i64 8] w (re (.tuple #[.int .u64 X,.int .i64 0]) w)) :=
 fun w h=>(load_okG h.1 A 8 X h0 h1 hz hX).mono fun e w' ⟨he,hg⟩=>⟨he,below_of_grown' hg⟩
theorem step_info:(Tryz.prog.info? 167).map (·.size)=some 12:=ka
theorem results_cell1 {fn:Func} {p:Tmp} {ty:TypeId} (h:fn.results= #[.cell p ty]) (tmps:Array Value) (P:Program) (w:World) :
 (results fn tmps).run P w=((asAddr (tmps.getD p undef)).run P w).andThen fun a w₁ =>(loadVar ty a).run P w₁ :=by
 simp only [results,h]
 simp [Sem.run_bind,Result.andThen]
theorem look_ok {rb n:Nat} {has:Int->Bool} {F:Int} {M:Int->Int} (T P L ad cd X:Int) (t0:0<=T) (t1:T<1048576) (p0:0<=P) (p1:P<512) (y0 y1 y2 y3 y4 y5 y6 y7:Bool) (y8:Int) (hk:chkG has (T*4096+P*8) 8=0) (hX:ld M (T*4096+P*8) (8:Int).toNat=X) (hx0:0<=X) (hx1:X<18446744073709551616) (hy:unp X=.agg (sd y0 y1 y2 y3 y4 y5 y6 y7 y8)) (hp:y0=true) (hr:resV X L=false) (w:World) (h:Rd w rb has F M n) :
 Calls Tryz.prog 98 #[.pointer (some ⟨rb,0,none⟩),.int .i64 T,.int .i64 P,.int .i64 L,.agg #[.int .u64 ad,.int .i64 cd]] w (re (stepv (T*4096+P*8) X y0 y1 y2 y3 y4 y5 y6 y7 y8 L) w):=by
 have O:=ldc (rb:=rb) (n:=n) (F:=F) (M:=M) (T*4096+P*8) X (by omega) (by omega) hk hX
 have U:Hid (∀ w:World,Tab w->Calls Tryz.prog 112 #[.int .u64 X] w (re (.agg (sd y0 y1 y2 y3 y4 y5 y6 y7 y8)) w)):=fun w ht=>by rw [<- hy];exact unpack_any X hx0 hx1 w ht
 have H:Hid (Rd w rb has F M n):=h
 have V:Hid (∀ w:World,Calls Tryz.prog 113 #[.int .u64 X,.int .i64 L] w fun e w'=>e=.returned (.bool false)/\w'=w):=fun w=>by rw [<- hr];exact reserved_any X L hx0 hx1 w
 subst hp
 clear hr
 clear h hk hX hy hx0 hx1
 go_enter Tryz.func98,Tryz.ntmps98
 go_wp2_with fail
 refine (O.out _ (H.out.keep (by first | exact Below.refl _ _ | exact below_new (Below.refl _ _) _ | exact below_new2 (Below.refl _ _) _ _ | exact below_new (below_new2 (Below.refl _ _) _ _) _))).mono ?_
 rintro e w1 ⟨rfl,h1⟩
 have zr1:w.heap.size+1<w1.heap.size:=nla (by first | (simp;done) | (simp;omega)) h1.size
 have or1:w1.heap[w.heap.size+1]? =some (.cells sn1 167 (0,0)):=(h1.block _ (by first | (simp;done) | (simp;omega))).trans (by first | exact own1 _ _ | exact own2a _ _ _ | exact own2b _ _ _ | exact own3a _ _ _ _ | exact own3b _ _ _ _ | exact own3c _ _ _ _)
 have B1:Hid (bc w w1):=below_then (by first | exact Below.refl _ _ | exact below_new (Below.refl _ _) _ | exact below_new2 (Below.refl _ _) _ _ | exact below_new (below_new2 (Below.refl _ _) _ _) _) h1
 clear h1
 go_wp2_with fail
 refine (U.out _ (H.out.keep (by first | exact B1.out | exact below_new (B1.out) _ | exact below_new2 (B1.out) _ _ | exact below_new (below_new2 (B1.out) _ _) _)).2).mono ?_
 rintro e w2 ⟨rfl,h2⟩
 have zr2:w.heap.size+1<w2.heap.size:=nla (by first | exact zr1 | (rw [World.size_alloc];omega) | (simp;done) | (simp;omega)) h2.size
 have or2:w2.heap[w.heap.size+1]? =some (.cells sn1 167 (0,0)):=(h2.block _ (by first | exact zr1 | (rw [World.size_alloc];omega) | (simp;done) | (simp;omega))).trans (by first | exact or1 | exact (baa.block _ zr1).trans or1 | exact ((Go.Joins.below_alloc2 _ _ _).block _ zr1).trans or1 | exact own1 _ _ | exact own2a _ _ _ | exact own2b _ _ _ | exact own3a _ _ _ _ | exact own3b _ _ _ _ | exact own3c _ _ _ _)
 clear zr1 or1
 have B2:Hid (bc w w2):=below_then (by first | exact B1.out | exact below_new (B1.out) _ | exact below_new2 (B1.out) _ _ | exact below_new (below_new2 (B1.out) _ _) _) h2
 clear h2
 have HO:Hid ((w2.alloc (.cells (sd true y1 y2 y3 y4 y5 y6 y7 y8) 98)).heap[w.heap.size+1]? =some (.cells sn1 167 (0,0))):=((Go.Joins.below_alloc1 w2 _).block _ zr2).trans or2
 have Z2:Hid (w.heap.size+1<w2.heap.size):=zr2
 have HC:Hid ((((sb1 (T*4096+P*8) X true y1 y2 y3 y4 y5 y6 y7 y8 L):Array Value).all fun x=>x.oneCell')=true):=by show (((sb1 (T*4096+P*8) X true y1 y2 y3 y4 y5 y6 y7 y8 L):Array Value).all fun x=>x.oneCell')=true;simp [Value.oneCell']
 clear or2 zr2
 go_wp2_with fail
 refine (V.out _).mono ?_
 rintro e w3 ⟨rfl,rfl⟩
 go_wp2_with (refine wpList_store_row rfl 167 _ _ rfl (w.heap.size+1) (sb1 (T*4096+P*8) X true y1 y2 y3 y4 y5 y6 y7 y8 L) rfl rfl 167 sn1 HO.out step_info rfl HC.out ?_)
 refine bodyPost_ret (v:=.agg (sb1 (T*4096+P*8) X true y1 y2 y3 y4 y5 y6 y7 y8 L)) ?_ rfl ?_
 . rw [results_cell1 Tryz.results98]
   exact run_loadVar_row _ (w.heap.size+1) 167 167 (sb1 (T*4096+P*8) X true y1 y2 y3 y4 y5 y6 y7 y8 L) (0,0) _ (setRow_heap _ _ _ _ _ _ HO.out) Tryz.underlying167 rfl step_info
 . refine ⟨rfl,?_⟩
   exact below_setRow (below_new B2.out _) (by omega) _
def zstep:Value:=.agg sn1
theorem step_info5:(Tryz.prog.info? 167).map (fun i=>(i.zero,i.size,i.bytes))=some (some zstep,12,40):=ka
theorem info5 {P:Program} {e:TypeId} {z:Value} {s b:Nat} (h:(P.info? e).map (fun i=>(i.zero,i.size,i.bytes))=some (some z,s,b)): ∃ i:TypeInfo,P.info? e=some i/\i.zero=some z/\i.size=s/\i.bytes=b:=by
 cases hq:P.info? e with
 | none => simp [hq] at h
 | some i =>
  simp [hq] at h
  exact ⟨i,rfl,h.1,h.2.1,h.2.2⟩
theorem make_steps: ∃ Z:Array Value,Z.size=48/\ ∀ W:World,(Instr.makeSlice 160 (.int .i64 0) (.int .i64 4)).run Tryz.prog W=.ok (.slice (some ⟨W.heap.size,0,none⟩) 0 4) (W.alloc (.cells Z 167)):=by
 obtain ⟨i,h1,h2,h3,h4⟩:=info5 step_info5
 refine ⟨_,?_,fun W=>run_make W 160 167 i zstep Tryz.underlying160 h1 h2 .i64 .i64 0 4 (by omega) (by omega) (by rw [h4];decide) (by omega)⟩
 rw [h3];simp [madeCells]
def Way (w:World) (base:Nat) (v:Value) (n:Nat) (xs:List Value):Prop:=w.ownsRow base 167 12 v n xs/\ ∃ g cap,v=.slice (some ⟨g,0,none⟩) n cap/\base<=g/\g<w.heap.size
theorem Way.keep {w w':World} {base n:Nat} {v:Value} {xs:List Value} (h:Way w base v n xs) (hb:bc w w'):Way w' base v n xs:=by
 obtain ⟨⟨h1,h2⟩,g,cap,hv,hg1,hg2⟩:=h
 refine ⟨⟨h1,?_⟩,g,cap,hv,hg1,nla hg2 hb.size⟩
 rcases h2 with h2 | ⟨g',cap',cur,e1,e2,e3,e4⟩
 . exact Or.inl h2
 . have hg':g'<w.heap.size:=(Array.getElem?_eq_some_iff.1 e3).1
   exact Or.inr ⟨g',cap',cur,e1,e2,(hb.block g' hg').trans e3,e4⟩
theorem Way.made (w:World) (Z:Array Value) (hZ:Z.size=48):Way (w.alloc (.cells Z 167)) w.heap.size (.slice (some ⟨w.heap.size,0,none⟩) 0 4) 0 [] :=
 ⟨⟨rfl,Or.inr ⟨w.heap.size,4,Z,rfl,Nat.le_refl _,own1 w _,by omega,by unfold maxLen;decide,by rw [hZ],rfl⟩⟩,_,_,rfl,Nat.le_refl _,by rw [World.size_alloc];omega⟩
theorem Way.of_own {w:World} {base n:Nat} {v:Value} {xs:List Value} (h:w.ownsRow base 167 12 v n xs) (hn:0<n):Way w base v n xs:=by
 refine ⟨h,?_⟩
 obtain ⟨h1,h2 | ⟨g',cap',cur,e1,e2,e3,e4⟩⟩:=h
 . omega
 . exact ⟨g',cap',e1,e2,(Array.getElem?_eq_some_iff.1 e3).1⟩
theorem Way.own {w:World} {base n:Nat} {v:Value} {xs:List Value} (h:Way w base v n xs): ∃ g,v.ownBlock=some g/\base<=g/\g<w.heap.size:=by
 obtain ⟨_,g,cap,rfl,h1,h2⟩:=h
 exact ⟨g,rfl,h1,h2⟩
theorem large_any (A X f L:Int) (y0 y1 y2 y3 y4 y5 y6 y7:Bool) (w:World):Calls Tryz.prog 99 #[stepv A X y0 y1 y2 y3 y4 y5 y6 y7 f L] w (re (.bool (L==2 && y5)) w):=by
 unfold stepv
 by_cases h:L=2
 . subst h
   go_enter Tryz.func99,Tryz.ntmps99
   go_wp2_with fail
   go_returns
   exact ⟨by simp,baa⟩
 . have h2:(L==2)=false:=by simp [h]
   go_enter Tryz.func99,Tryz.ntmps99
   go_wp2_with fail
   go_returns
   exact ⟨by simp [h2],baa⟩
theorem cell_grown {w w':World} {r:Option Nat} {b i:Nat} {v:Value} (hg:w.grownBy w' r) (hb:b<w.heap.size) (hr:r≠some b) (hx:w.cell? ⟨b,i,none⟩=some v):w'.cell? ⟨b,i,none⟩=some v:=by
 have e:w'.heap[b]? =w.heap[b]? :=hg.block b hb (fun e=>hr e.symm)
 rw [<- hx];simp [World.cell?,e]
theorem cell_old2 {b i:Nat} {w:World} (hb:b<w.heap.size) (o p:Obj):((w.alloc o).alloc p).cell? ⟨b,i,none⟩=w.cell? ⟨b,i,none⟩:=cell_keep (B:=w.heap.size) (Go.Joins.below_alloc2 w o p) hb
theorem news_cells (u:World) (o:Obj) (C:Array Value) (t:TypeId): ∀ j x,C.toList[j]? =some x->((u.alloc o).alloc (.cells C t)).cell? ((⟨u.heap.size+1,0,none⟩:Addr).add j)=some x:=by
 intro j x hx
 have hadd:(⟨u.heap.size+1,0,none⟩:Addr).add j=⟨u.heap.size+1,j,none⟩:=by unfold Addr.add;split <;> simp_all
 rw [hadd,Go.Joins.cell_of_block (own2b u o _) j]
 rw [Array.getElem?_toList] at hx;exact hx
theorem follow4 {rb n:Nat} {has:Int->Bool} {F:Int} {M:Int->Int} (T ad cd p0 p1 p2 p3:Int) (A0 X0 f0:Int) (y00 y01 y02 y03 y04 y05 y06 y07:Bool) (A1 X1 f1:Int) (y10 y11 y12 y13 y14 y15 y16 y17:Bool) (A2 X2 f2:Int) (y20 y21 y22 y23 y24 y26 y27:Bool) (A3 X3 f3:Int) (y30 y31 y32 y33 y34 y35 y36 y37:Bool)
 (l0:Hid (∀ w:World,Rd w rb has F M n->Calls Tryz.prog 98 #[.pointer (some ⟨rb,0,none⟩),.int .i64 T,.int .i64 p0,.int .i64 4,.agg #[.int .u64 ad,.int .i64 cd]] w (re (.agg (sb1 A0 X0 y00 y01 y02 y03 y04 y05 y06 y07 f0 4)) w)))
 (l1:Hid (∀ w:World,Rd w rb has F M n->Calls Tryz.prog 98 #[.pointer (some ⟨rb,0,none⟩),.int .i64 f0,.int .i64 p1,.int .i64 3,.agg #[.int .u64 ad,.int .i64 cd]] w (re (.agg (sb1 A1 X1 y10 y11 y12 y13 y14 y15 y16 y17 f1 3)) w)))
 (l2:Hid (∀ w:World,Rd w rb has F M n->Calls Tryz.prog 98 #[.pointer (some ⟨rb,0,none⟩),.int .i64 f1,.int .i64 p2,.int .i64 2,.agg #[.int .u64 ad,.int .i64 cd]] w (re (.agg (sb1 A2 X2 y20 y21 y22 y23 y24 false y26 y27 f2 2)) w)))
 (l3:Hid (∀ w:World,Rd w rb has F M n->Calls Tryz.prog 98 #[.pointer (some ⟨rb,0,none⟩),.int .i64 f2,.int .i64 p3,.int .i64 1,.agg #[.int .u64 ad,.int .i64 cd]] w (re (.agg (sb1 A3 X3 y30 y31 y32 y33 y34 y35 y36 y37 f3 1)) w))) (w:World) (h:Rd w rb has F M n) :
 Calls Tryz.prog 65 #[.pointer (some ⟨rb,0,none⟩),.int .i64 T,.agg (sc p0 p1 p2 p3),.agg #[.int .u64 ad,.int .i64 cd]] w fun e w'=> ∃ v,e=.returned v/\Way w' (w.heap.size+2) v 4 ((((([]:List Value)++((sc1 A0 X0 y00 y01 y02 y03 y04 y05 y06 y07 f0 4):List Value))++((sc1 A1 X1 y10 y11 y12 y13 y14 y15 y16 y17 f1 3):List Value))++((sc1 A2 X2 y20 y21 y22 y23 y24 false y26 y27 f2 2):List Value))++((sc1 A3 X3 y30 y31 y32 y33 y34 y35 y36 y37 f3 1):List Value))/\bc w w':=by
 have g0:Hid (∀ w:World,Calls Tryz.prog 99 #[.agg (sb1 A0 X0 y00 y01 y02 y03 y04 y05 y06 y07 f0 4)] w (re (.bool false) w)):=fun w=>large_any A0 X0 f0 4 y00 y01 y02 y03 y04 y05 y06 y07 w
 have g1:Hid (∀ w:World,Calls Tryz.prog 99 #[.agg (sb1 A1 X1 y10 y11 y12 y13 y14 y15 y16 y17 f1 3)] w (re (.bool false) w)):=fun w=>large_any A1 X1 f1 3 y10 y11 y12 y13 y14 y15 y16 y17 w
 have g2:Hid (∀ w:World,Calls Tryz.prog 99 #[.agg (sb1 A2 X2 y20 y21 y22 y23 y24 false y26 y27 f2 2)] w (re (.bool false) w)):=fun w=>large_any A2 X2 f2 2 y20 y21 y22 y23 y24 false y26 y27 w
 have g3:Hid (∀ w:World,Calls Tryz.prog 99 #[.agg (sb1 A3 X3 y30 y31 y32 y33 y34 y35 y36 y37 f3 1)] w (re (.bool false) w)):=fun w=>large_any A3 X3 f3 1 y30 y31 y32 y33 y34 y35 y36 y37 w
 obtain ⟨i0,hi,hz0,hz1,hz2⟩:=info5 step_info5
 obtain ⟨Z,hZ,mk⟩:=make_steps
 have H:Hid (Rd w rb has F M n):=h
 have i0':=idx4_0
 have i1':=idx4_1
 have i2':=idx4_2
 have i3':=idx4_3
 have MX0:Hid (0+1<=maxLen):=by show _<=_;unfold maxLen;decide
 have MX1:Hid (1+1<=maxLen):=by show _<=_;unfold maxLen;decide
 have MX2:Hid (2+1<=maxLen):=by show _<=_;unfold maxLen;decide
 have MX3:Hid (3+1<=maxLen):=by show _<=_;unfold maxLen;decide
 have PB0:Hid (bc w (((w.alloc (.cells (sc p0 p1 p2 p3) 156)).alloc (.cells #[.int .u64 ad,.int .i64 cd] 47)).alloc (.cells Z 167))):=Go.Joins.below_alloc3 _ _ _ _
 have PZ0:Hid (w.heap.size+1<(((w.alloc (.cells (sc p0 p1 p2 p3) 156)).alloc (.cells #[.int .u64 ad,.int .i64 cd] 47)).alloc (.cells Z 167)).heap.size):=by show _<_;simp
 have PM0:Hid ((((w.alloc (.cells (sc p0 p1 p2 p3) 156)).alloc (.cells #[.int .u64 ad,.int .i64 cd] 47)).alloc (.cells Z 167)).cell? ⟨w.heap.size+1,0,none⟩=some (.int .u64 ad)/\(((w.alloc (.cells (sc p0 p1 p2 p3) 156)).alloc (.cells #[.int .u64 ad,.int .i64 cd] 47)).alloc (.cells Z 167)).cell? ⟨w.heap.size+1,1,none⟩=some (.int .i64 cd)):=⟨Go.Joins.cell_of_block (own3b w _ _ _) 0,Go.Joins.cell_of_block (own3b w _ _ _) 1⟩
 have PW0:Hid (Way (((w.alloc (.cells (sc p0 p1 p2 p3) 156)).alloc (.cells #[.int .u64 ad,.int .i64 cd] 47)).alloc (.cells Z 167)) (w.heap.size+2) (.slice (some ⟨w.heap.size+2,0,none⟩) 0 4) 0 ([]:List Value)):=by
  have:=Way.made ((w.alloc (.cells (sc p0 p1 p2 p3) 156)).alloc (.cells #[.int .u64 ad,.int .i64 cd] 47)) Z hZ
  rw [World.size_alloc,World.size_alloc] at this
  exact this
 clear h hZ
 go_enter Tryz.func65,Tryz.ntmps65
 go_wp2_with fail
 refine wp_loop_rounds 5 ?_
 rw [rounds_succ]
 go_wp2_with fail
 refine (l0.out _ (H.out.keep PB0.out)).mono ?_
 rintro e u0 ⟨rfl,hb⟩
 have zm:w.heap.size+1<u0.heap.size:=nla PZ0.out hb.size
 have um0_0:u0.cell? ⟨w.heap.size+1,0,none⟩=some (.int .u64 ad):=cell_next hb PZ0.out PM0.out.1
 have um0_1:u0.cell? ⟨w.heap.size+1,1,none⟩=some (.int .i64 cd):=cell_next hb PZ0.out PM0.out.2
 have WU:Hid (Way u0 (w.heap.size+2) (.slice (some ⟨w.heap.size+2,0,none⟩) 0 4) 0 ([]:List Value)):=PW0.out.keep hb
 have BU:Hid (bc w u0):=below_then PB0.out hb
 have ZM:Hid (w.heap.size+1<u0.heap.size):=zm
 have MM:Hid (u0.cell? ⟨w.heap.size+1,0,none⟩=some (.int .u64 ad)/\u0.cell? ⟨w.heap.size+1,1,none⟩=some (.int .i64 cd)):=⟨um0_0,um0_1⟩
 clear hb zm um0_0 um0_1 PB0 PZ0 PM0 PW0
 have OW:Hid (((u0.alloc (.cells (sb1 A0 X0 y00 y01 y02 y03 y04 y05 y06 y07 f0 4) 167)).alloc (.cells (sb1 A0 X0 y00 y01 y02 y03 y04 y05 y06 y07 f0 4) 167)).ownsRow (w.heap.size+2) 167 12 (.slice (some ⟨w.heap.size+2,0,none⟩) 0 4) 0 ([]:List Value)):=(WU.out.keep (Go.Joins.below_alloc2 _ _ _)).1
 have NW:Hid (∀ j x,((sc1 A0 X0 y00 y01 y02 y03 y04 y05 y06 y07 f0 4):List Value)[j]? =some x->((u0.alloc (.cells (sb1 A0 X0 y00 y01 y02 y03 y04 y05 y06 y07 f0 4) 167)).alloc (.cells (sb1 A0 X0 y00 y01 y02 y03 y04 y05 y06 y07 f0 4) 167)).cell? ((⟨u0.heap.size+1,0,none⟩:Addr).add j)=some x):=news_cells u0 _ (sb1 A0 X0 y00 y01 y02 y03 y04 y05 y06 y07 f0 4) 167
 have ON:Hid (∀ x∈((sc1 A0 X0 y00 y01 y02 y03 y04 y05 y06 y07 f0 4):List Value),x.oneCell'=true):=by show ∀ x∈((sc1 A0 X0 y00 y01 y02 y03 y04 y05 y06 y07 f0 4):List Value),x.oneCell'=true;simp [Value.oneCell']
 have HZ:Hid (w.heap.size+2<=((u0.alloc (.cells (sb1 A0 X0 y00 y01 y02 y03 y04 y05 y06 y07 f0 4) 167)).alloc (.cells (sb1 A0 X0 y00 y01 y02 y03 y04 y05 y06 y07 f0 4) 167)).heap.size):=km1
 go_wp2_with (at_builtin;refine wpList_append_own _ rfl _ _ 160 rfl (w.heap.size+2) 167 i0 zstep 12 40 Tryz.underlying160 hi hz0 hz1 hz2 rfl (by decide) (.slice (some ⟨w.heap.size+2,0,none⟩) 0 4) 0 ([]:List Value) rfl OW.out ⟨u0.heap.size+1,0,none⟩ 1 1 ((sc1 A0 X0 y00 y01 y02 y03 y04 y05 y06 y07 f0 4):List Value) rfl rfl NW.out ON.out MX0.out (by decide) HZ.out ?_;intro v1 a0 hown hg hnil;have WA:Hid (Way a0 (w.heap.size+2) v1 1 (([]:List Value)++((sc1 A0 X0 y00 y01 y02 y03 y04 y05 y06 y07 f0 4):List Value))):=Way.of_own hown (by omega);have BA:Hid (bc w a0):=(below_new2 BU.out _ _).grown hg (below_new2 BU.out _ _).size (fun j e=>by obtain ⟨g,h1,h2,h3⟩:=WU.out.own;rw [h1] at e;cases e;omega);have s0_0:a0.cell? ⟨u0.heap.size,0,none⟩=some (.int .u64 A0):=cell_grown hg kl1 kn1 (Go.Joins.cell_of_block (own2a u0 _ _) 0);have s0_1:a0.cell? ⟨u0.heap.size,1,none⟩=some (.int .u64 X0):=cell_grown hg kl1 kn1 (Go.Joins.cell_of_block (own2a u0 _ _) 1);have s0_2:a0.cell? ⟨u0.heap.size,2,none⟩=some (.bool y00):=cell_grown hg kl1 kn1 (Go.Joins.cell_of_block (own2a u0 _ _) 2);have s0_3:a0.cell? ⟨u0.heap.size,3,none⟩=some (.bool y01):=cell_grown hg kl1 kn1 (Go.Joins.cell_of_block (own2a u0 _ _) 3);have s0_4:a0.cell? ⟨u0.heap.size,4,none⟩=some (.bool y02):=cell_grown hg kl1 kn1 (Go.Joins.cell_of_block (own2a u0 _ _) 4);have s0_5:a0.cell? ⟨u0.heap.size,5,none⟩=some (.bool y03):=cell_grown hg kl1 kn1 (Go.Joins.cell_of_block (own2a u0 _ _) 5);have s0_6:a0.cell? ⟨u0.heap.size,6,none⟩=some (.bool y04):=cell_grown hg kl1 kn1 (Go.Joins.cell_of_block (own2a u0 _ _) 6);have s0_7:a0.cell? ⟨u0.heap.size,7,none⟩=some (.bool y05):=cell_grown hg kl1 kn1 (Go.Joins.cell_of_block (own2a u0 _ _) 7);have s0_8:a0.cell? ⟨u0.heap.size,8,none⟩=some (.bool y06):=cell_grown hg kl1 kn1 (Go.Joins.cell_of_block (own2a u0 _ _) 8);have s0_9:a0.cell? ⟨u0.heap.size,9,none⟩=some (.bool y07):=cell_grown hg kl1 kn1 (Go.Joins.cell_of_block (own2a u0 _ _) 9);have s0_10:a0.cell? ⟨u0.heap.size,10,none⟩=some (.int .i64 f0):=cell_grown hg kl1 kn1 (Go.Joins.cell_of_block (own2a u0 _ _) 10);have s0_11:a0.cell? ⟨u0.heap.size,11,none⟩=some (.int .i64 4):=cell_grown hg kl1 kn1 (Go.Joins.cell_of_block (own2a u0 _ _) 11);have SZ:u0.heap.size<a0.heap.size:=nla kl1 hg.size;have am0_0:a0.cell? ⟨w.heap.size+1,0,none⟩=some (.int .u64 ad):=cell_grown hg ko1 kn1 ((cell_old2 ZM.out _ _).trans MM.out.1);have am0_1:a0.cell? ⟨w.heap.size+1,1,none⟩=some (.int .i64 cd):=cell_grown hg ko1 kn1 ((cell_old2 ZM.out _ _).trans MM.out.2);have AZ:Hid (w.heap.size+1<a0.heap.size):=Nat.lt_trans ZM.out SZ;have AS:Hid (u0.heap.size<a0.heap.size):=SZ;have AM:Hid (a0.cell? ⟨w.heap.size+1,0,none⟩=some (.int .u64 ad)/\a0.cell? ⟨w.heap.size+1,1,none⟩=some (.int .i64 cd)):=⟨am0_0,am0_1⟩;clear hown hg hnil OW NW ON HZ am0_0 am0_1 WU BU MM ZM SZ)
 refine (g0.out _).mono ?_
 rintro e b0 ⟨rfl,hb⟩
 have t0_10:b0.cell? ⟨u0.heap.size,10,none⟩=some (.int .i64 f0):=cell_next hb AS.out s0_10
 have pm1_0:b0.cell? ⟨w.heap.size+1,0,none⟩=some (.int .u64 ad):=cell_next hb AZ.out AM.out.1
 have pm1_1:b0.cell? ⟨w.heap.size+1,1,none⟩=some (.int .i64 cd):=cell_next hb AZ.out AM.out.2
 have PB1:Hid (bc w b0):=below_then BA.out hb
 have PZ1:Hid (w.heap.size+1<b0.heap.size):=nla AZ.out hb.size
 have PM1:Hid (b0.cell? ⟨w.heap.size+1,0,none⟩=some (.int .u64 ad)/\b0.cell? ⟨w.heap.size+1,1,none⟩=some (.int .i64 cd)):=⟨pm1_0,pm1_1⟩
 have PW1:Hid (Way b0 (w.heap.size+2) v1 1 (([]:List Value)++((sc1 A0 X0 y00 y01 y02 y03 y04 y05 y06 y07 f0 4):List Value))):=WA.out.keep hb
 clear hb WA BA AM AZ AS s0_0 s0_1 s0_2 s0_3 s0_4 s0_5 s0_6 s0_7 s0_8 s0_9 s0_10 s0_11
 go_wp2_with fail
 rw [rounds_succ]
 go_wp2_with fail
 refine (l1.out _ (H.out.keep PB1.out)).mono ?_
 rintro e u1 ⟨rfl,hb⟩
 have zm:w.heap.size+1<u1.heap.size:=nla PZ1.out hb.size
 have um1_0:u1.cell? ⟨w.heap.size+1,0,none⟩=some (.int .u64 ad):=cell_next hb PZ1.out PM1.out.1
 have um1_1:u1.cell? ⟨w.heap.size+1,1,none⟩=some (.int .i64 cd):=cell_next hb PZ1.out PM1.out.2
 have WU:Hid (Way u1 (w.heap.size+2) v1 1 (([]:List Value)++((sc1 A0 X0 y00 y01 y02 y03 y04 y05 y06 y07 f0 4):List Value))):=PW1.out.keep hb
 have BU:Hid (bc w u1):=below_then PB1.out hb
 have ZM:Hid (w.heap.size+1<u1.heap.size):=zm
 have MM:Hid (u1.cell? ⟨w.heap.size+1,0,none⟩=some (.int .u64 ad)/\u1.cell? ⟨w.heap.size+1,1,none⟩=some (.int .i64 cd)):=⟨um1_0,um1_1⟩
 clear hb zm um1_0 um1_1 PB1 PZ1 PM1 PW1 pm1_0 pm1_1
 have OW:Hid (((u1.alloc (.cells (sb1 A1 X1 y10 y11 y12 y13 y14 y15 y16 y17 f1 3) 167)).alloc (.cells (sb1 A1 X1 y10 y11 y12 y13 y14 y15 y16 y17 f1 3) 167)).ownsRow (w.heap.size+2) 167 12 v1 1 (([]:List Value)++((sc1 A0 X0 y00 y01 y02 y03 y04 y05 y06 y07 f0 4):List Value))):=(WU.out.keep (Go.Joins.below_alloc2 _ _ _)).1
 have NW:Hid (∀ j x,((sc1 A1 X1 y10 y11 y12 y13 y14 y15 y16 y17 f1 3):List Value)[j]? =some x->((u1.alloc (.cells (sb1 A1 X1 y10 y11 y12 y13 y14 y15 y16 y17 f1 3) 167)).alloc (.cells (sb1 A1 X1 y10 y11 y12 y13 y14 y15 y16 y17 f1 3) 167)).cell? ((⟨u1.heap.size+1,0,none⟩:Addr).add j)=some x):=news_cells u1 _ (sb1 A1 X1 y10 y11 y12 y13 y14 y15 y16 y17 f1 3) 167
 have ON:Hid (∀ x∈((sc1 A1 X1 y10 y11 y12 y13 y14 y15 y16 y17 f1 3):List Value),x.oneCell'=true):=by show ∀ x∈((sc1 A1 X1 y10 y11 y12 y13 y14 y15 y16 y17 f1 3):List Value),x.oneCell'=true;simp [Value.oneCell']
 have HZ:Hid (w.heap.size+2<=((u1.alloc (.cells (sb1 A1 X1 y10 y11 y12 y13 y14 y15 y16 y17 f1 3) 167)).alloc (.cells (sb1 A1 X1 y10 y11 y12 y13 y14 y15 y16 y17 f1 3) 167)).heap.size):=km1
 go_wp2_with (at_builtin;refine wpList_append_own _ rfl _ _ 160 rfl (w.heap.size+2) 167 i0 zstep 12 40 Tryz.underlying160 hi hz0 hz1 hz2 rfl (by decide) v1 1 (([]:List Value)++((sc1 A0 X0 y00 y01 y02 y03 y04 y05 y06 y07 f0 4):List Value)) rfl OW.out ⟨u1.heap.size+1,0,none⟩ 1 1 ((sc1 A1 X1 y10 y11 y12 y13 y14 y15 y16 y17 f1 3):List Value) rfl rfl NW.out ON.out MX1.out (by decide) HZ.out ?_;intro v2 a1 hown hg hnil;have WA:Hid (Way a1 (w.heap.size+2) v2 2 ((([]:List Value)++((sc1 A0 X0 y00 y01 y02 y03 y04 y05 y06 y07 f0 4):List Value))++((sc1 A1 X1 y10 y11 y12 y13 y14 y15 y16 y17 f1 3):List Value))):=Way.of_own hown (by omega);have BA:Hid (bc w a1):=(below_new2 BU.out _ _).grown hg (below_new2 BU.out _ _).size (fun j e=>by obtain ⟨g,h1,h2,h3⟩:=WU.out.own;rw [h1] at e;cases e;omega);have s1_0:a1.cell? ⟨u1.heap.size,0,none⟩=some (.int .u64 A1):=cell_grown hg kl1 kn1 (Go.Joins.cell_of_block (own2a u1 _ _) 0);have s1_1:a1.cell? ⟨u1.heap.size,1,none⟩=some (.int .u64 X1):=cell_grown hg kl1 kn1 (Go.Joins.cell_of_block (own2a u1 _ _) 1);have s1_2:a1.cell? ⟨u1.heap.size,2,none⟩=some (.bool y10):=cell_grown hg kl1 kn1 (Go.Joins.cell_of_block (own2a u1 _ _) 2);have s1_3:a1.cell? ⟨u1.heap.size,3,none⟩=some (.bool y11):=cell_grown hg kl1 kn1 (Go.Joins.cell_of_block (own2a u1 _ _) 3);have s1_4:a1.cell? ⟨u1.heap.size,4,none⟩=some (.bool y12):=cell_grown hg kl1 kn1 (Go.Joins.cell_of_block (own2a u1 _ _) 4);have s1_5:a1.cell? ⟨u1.heap.size,5,none⟩=some (.bool y13):=cell_grown hg kl1 kn1 (Go.Joins.cell_of_block (own2a u1 _ _) 5);have s1_6:a1.cell? ⟨u1.heap.size,6,none⟩=some (.bool y14):=cell_grown hg kl1 kn1 (Go.Joins.cell_of_block (own2a u1 _ _) 6);have s1_7:a1.cell? ⟨u1.heap.size,7,none⟩=some (.bool y15):=cell_grown hg kl1 kn1 (Go.Joins.cell_of_block (own2a u1 _ _) 7);have s1_8:a1.cell? ⟨u1.heap.size,8,none⟩=some (.bool y16):=cell_grown hg kl1 kn1 (Go.Joins.cell_of_block (own2a u1 _ _) 8);have s1_9:a1.cell? ⟨u1.heap.size,9,none⟩=some (.bool y17):=cell_grown hg kl1 kn1 (Go.Joins.cell_of_block (own2a u1 _ _) 9);have s1_10:a1.cell? ⟨u1.heap.size,10,none⟩=some (.int .i64 f1):=cell_grown hg kl1 kn1 (Go.Joins.cell_of_block (own2a u1 _ _) 10);have s1_11:a1.cell? ⟨u1.heap.size,11,none⟩=some (.int .i64 3):=cell_grown hg kl1 kn1 (Go.Joins.cell_of_block (own2a u1 _ _) 11);have SZ:u1.heap.size<a1.heap.size:=nla kl1 hg.size;have am1_0:a1.cell? ⟨w.heap.size+1,0,none⟩=some (.int .u64 ad):=cell_grown hg ko1 kn1 ((cell_old2 ZM.out _ _).trans MM.out.1);have am1_1:a1.cell? ⟨w.heap.size+1,1,none⟩=some (.int .i64 cd):=cell_grown hg ko1 kn1 ((cell_old2 ZM.out _ _).trans MM.out.2);have AZ:Hid (w.heap.size+1<a1.heap.size):=Nat.lt_trans ZM.out SZ;have AS:Hid (u1.heap.size<a1.heap.size):=SZ;have AM:Hid (a1.cell? ⟨w.heap.size+1,0,none⟩=some (.int .u64 ad)/\a1.cell? ⟨w.heap.size+1,1,none⟩=some (.int .i64 cd)):=⟨am1_0,am1_1⟩;clear hown hg hnil OW NW ON HZ am1_0 am1_1 WU BU MM ZM SZ)
 refine (g1.out _).mono ?_
 rintro e b1 ⟨rfl,hb⟩
 have t1_10:b1.cell? ⟨u1.heap.size,10,none⟩=some (.int .i64 f1):=cell_next hb AS.out s1_10
 have pm2_0:b1.cell? ⟨w.heap.size+1,0,none⟩=some (.int .u64 ad):=cell_next hb AZ.out AM.out.1
 have pm2_1:b1.cell? ⟨w.heap.size+1,1,none⟩=some (.int .i64 cd):=cell_next hb AZ.out AM.out.2
 have PB2:Hid (bc w b1):=below_then BA.out hb
 have PZ2:Hid (w.heap.size+1<b1.heap.size):=nla AZ.out hb.size
 have PM2:Hid (b1.cell? ⟨w.heap.size+1,0,none⟩=some (.int .u64 ad)/\b1.cell? ⟨w.heap.size+1,1,none⟩=some (.int .i64 cd)):=⟨pm2_0,pm2_1⟩
 have PW2:Hid (Way b1 (w.heap.size+2) v2 2 ((([]:List Value)++((sc1 A0 X0 y00 y01 y02 y03 y04 y05 y06 y07 f0 4):List Value))++((sc1 A1 X1 y10 y11 y12 y13 y14 y15 y16 y17 f1 3):List Value))):=WA.out.keep hb
 clear hb WA BA AM AZ AS s1_0 s1_1 s1_2 s1_3 s1_4 s1_5 s1_6 s1_7 s1_8 s1_9 s1_10 s1_11
 go_wp2_with fail
 rw [rounds_succ]
 go_wp2_with fail
 refine (l2.out _ (H.out.keep PB2.out)).mono ?_
 rintro e u2 ⟨rfl,hb⟩
 have zm:w.heap.size+1<u2.heap.size:=nla PZ2.out hb.size
 have um2_0:u2.cell? ⟨w.heap.size+1,0,none⟩=some (.int .u64 ad):=cell_next hb PZ2.out PM2.out.1
 have um2_1:u2.cell? ⟨w.heap.size+1,1,none⟩=some (.int .i64 cd):=cell_next hb PZ2.out PM2.out.2
 have WU:Hid (Way u2 (w.heap.size+2) v2 2 ((([]:List Value)++((sc1 A0 X0 y00 y01 y02 y03 y04 y05 y06 y07 f0 4):List Value))++((sc1 A1 X1 y10 y11 y12 y13 y14 y15 y16 y17 f1 3):List Value))):=PW2.out.keep hb
 have BU:Hid (bc w u2):=below_then PB2.out hb
 have ZM:Hid (w.heap.size+1<u2.heap.size):=zm
 have MM:Hid (u2.cell? ⟨w.heap.size+1,0,none⟩=some (.int .u64 ad)/\u2.cell? ⟨w.heap.size+1,1,none⟩=some (.int .i64 cd)):=⟨um2_0,um2_1⟩
 clear hb zm um2_0 um2_1 PB2 PZ2 PM2 PW2 pm2_0 pm2_1
 have OW:Hid (((u2.alloc (.cells (sb1 A2 X2 y20 y21 y22 y23 y24 false y26 y27 f2 2) 167)).alloc (.cells (sb1 A2 X2 y20 y21 y22 y23 y24 false y26 y27 f2 2) 167)).ownsRow (w.heap.size+2) 167 12 v2 2 ((([]:List Value)++((sc1 A0 X0 y00 y01 y02 y03 y04 y05 y06 y07 f0 4):List Value))++((sc1 A1 X1 y10 y11 y12 y13 y14 y15 y16 y17 f1 3):List Value))):=(WU.out.keep (Go.Joins.below_alloc2 _ _ _)).1
 have NW:Hid (∀ j x,((sc1 A2 X2 y20 y21 y22 y23 y24 false y26 y27 f2 2):List Value)[j]? =some x->((u2.alloc (.cells (sb1 A2 X2 y20 y21 y22 y23 y24 false y26 y27 f2 2) 167)).alloc (.cells (sb1 A2 X2 y20 y21 y22 y23 y24 false y26 y27 f2 2) 167)).cell? ((⟨u2.heap.size+1,0,none⟩:Addr).add j)=some x):=news_cells u2 _ (sb1 A2 X2 y20 y21 y22 y23 y24 false y26 y27 f2 2) 167
 have ON:Hid (∀ x∈((sc1 A2 X2 y20 y21 y22 y23 y24 false y26 y27 f2 2):List Value),x.oneCell'=true):=by show ∀ x∈((sc1 A2 X2 y20 y21 y22 y23 y24 false y26 y27 f2 2):List Value),x.oneCell'=true;simp [Value.oneCell']
 have HZ:Hid (w.heap.size+2<=((u2.alloc (.cells (sb1 A2 X2 y20 y21 y22 y23 y24 false y26 y27 f2 2) 167)).alloc (.cells (sb1 A2 X2 y20 y21 y22 y23 y24 false y26 y27 f2 2) 167)).heap.size):=km1
 go_wp2_with (at_builtin;refine wpList_append_own _ rfl _ _ 160 rfl (w.heap.size+2) 167 i0 zstep 12 40 Tryz.underlying160 hi hz0 hz1 hz2 rfl (by decide) v2 2 ((([]:List Value)++((sc1 A0 X0 y00 y01 y02 y03 y04 y05 y06 y07 f0 4):List Value))++((sc1 A1 X1 y10 y11 y12 y13 y14 y15 y16 y17 f1 3):List Value)) rfl OW.out ⟨u2.heap.size+1,0,none⟩ 1 1 ((sc1 A2 X2 y20 y21 y22 y23 y24 false y26 y27 f2 2):List Value) rfl rfl NW.out ON.out MX2.out (by decide) HZ.out ?_;intro v3 a2 hown hg hnil;have WA:Hid (Way a2 (w.heap.size+2) v3 3 (((([]:List Value)++((sc1 A0 X0 y00 y01 y02 y03 y04 y05 y06 y07 f0 4):List Value))++((sc1 A1 X1 y10 y11 y12 y13 y14 y15 y16 y17 f1 3):List Value))++((sc1 A2 X2 y20 y21 y22 y23 y24 false y26 y27 f2 2):List Value))):=Way.of_own hown (by omega);have BA:Hid (bc w a2):=(below_new2 BU.out _ _).grown hg (below_new2 BU.out _ _).size (fun j e=>by obtain ⟨g,h1,h2,h3⟩:=WU.out.own;rw [h1] at e;cases e;omega);have s2_0:a2.cell? ⟨u2.heap.size,0,none⟩=some (.int .u64 A2):=cell_grown hg kl1 kn1 (Go.Joins.cell_of_block (own2a u2 _ _) 0);have s2_1:a2.cell? ⟨u2.heap.size,1,none⟩=some (.int .u64 X2):=cell_grown hg kl1 kn1 (Go.Joins.cell_of_block (own2a u2 _ _) 1);have s2_2:a2.cell? ⟨u2.heap.size,2,none⟩=some (.bool y20):=cell_grown hg kl1 kn1 (Go.Joins.cell_of_block (own2a u2 _ _) 2);have s2_3:a2.cell? ⟨u2.heap.size,3,none⟩=some (.bool y21):=cell_grown hg kl1 kn1 (Go.Joins.cell_of_block (own2a u2 _ _) 3);have s2_4:a2.cell? ⟨u2.heap.size,4,none⟩=some (.bool y22):=cell_grown hg kl1 kn1 (Go.Joins.cell_of_block (own2a u2 _ _) 4);have s2_5:a2.cell? ⟨u2.heap.size,5,none⟩=some (.bool y23):=cell_grown hg kl1 kn1 (Go.Joins.cell_of_block (own2a u2 _ _) 5);have s2_6:a2.cell? ⟨u2.heap.size,6,none⟩=some (.bool y24):=cell_grown hg kl1 kn1 (Go.Joins.cell_of_block (own2a u2 _ _) 6);have s2_7:a2.cell? ⟨u2.heap.size,7,none⟩=some (.bool false):=cell_grown hg kl1 kn1 (Go.Joins.cell_of_block (own2a u2 _ _) 7);have s2_8:a2.cell? ⟨u2.heap.size,8,none⟩=some (.bool y26):=cell_grown hg kl1 kn1 (Go.Joins.cell_of_block (own2a u2 _ _) 8);have s2_9:a2.cell? ⟨u2.heap.size,9,none⟩=some (.bool y27):=cell_grown hg kl1 kn1 (Go.Joins.cell_of_block (own2a u2 _ _) 9);have s2_10:a2.cell? ⟨u2.heap.size,10,none⟩=some (.int .i64 f2):=cell_grown hg kl1 kn1 (Go.Joins.cell_of_block (own2a u2 _ _) 10);have s2_11:a2.cell? ⟨u2.heap.size,11,none⟩=some (.int .i64 2):=cell_grown hg kl1 kn1 (Go.Joins.cell_of_block (own2a u2 _ _) 11);have SZ:u2.heap.size<a2.heap.size:=nla kl1 hg.size;have am2_0:a2.cell? ⟨w.heap.size+1,0,none⟩=some (.int .u64 ad):=cell_grown hg ko1 kn1 ((cell_old2 ZM.out _ _).trans MM.out.1);have am2_1:a2.cell? ⟨w.heap.size+1,1,none⟩=some (.int .i64 cd):=cell_grown hg ko1 kn1 ((cell_old2 ZM.out _ _).trans MM.out.2);have AZ:Hid (w.heap.size+1<a2.heap.size):=Nat.lt_trans ZM.out SZ;have AS:Hid (u2.heap.size<a2.heap.size):=SZ;have AM:Hid (a2.cell? ⟨w.heap.size+1,0,none⟩=some (.int .u64 ad)/\a2.cell? ⟨w.heap.size+1,1,none⟩=some (.int .i64 cd)):=⟨am2_0,am2_1⟩;clear hown hg hnil OW NW ON HZ am2_0 am2_1 WU BU MM ZM SZ)
 refine (g2.out _).mono ?_
 rintro e b2 ⟨rfl,hb⟩
 have t2_10:b2.cell? ⟨u2.heap.size,10,none⟩=some (.int .i64 f2):=cell_next hb AS.out s2_10
 have pm3_0:b2.cell? ⟨w.heap.size+1,0,none⟩=some (.int .u64 ad):=cell_next hb AZ.out AM.out.1
 have pm3_1:b2.cell? ⟨w.heap.size+1,1,none⟩=some (.int .i64 cd):=cell_next hb AZ.out AM.out.2
 have PB3:Hid (bc w b2):=below_then BA.out hb
 have PZ3:Hid (w.heap.size+1<b2.heap.size):=nla AZ.out hb.size
 have PM3:Hid (b2.cell? ⟨w.heap.size+1,0,none⟩=some (.int .u64 ad)/\b2.cell? ⟨w.heap.size+1,1,none⟩=some (.int .i64 cd)):=⟨pm3_0,pm3_1⟩
 have PW3:Hid (Way b2 (w.heap.size+2) v3 3 (((([]:List Value)++((sc1 A0 X0 y00 y01 y02 y03 y04 y05 y06 y07 f0 4):List Value))++((sc1 A1 X1 y10 y11 y12 y13 y14 y15 y16 y17 f1 3):List Value))++((sc1 A2 X2 y20 y21 y22 y23 y24 false y26 y27 f2 2):List Value))):=WA.out.keep hb
 clear hb WA BA AM AZ AS s2_0 s2_1 s2_2 s2_3 s2_4 s2_5 s2_6 s2_7 s2_8 s2_9 s2_10 s2_11
 go_wp2_with fail
 rw [rounds_succ]
 go_wp2_with fail
 refine (l3.out _ (H.out.keep PB3.out)).mono ?_
 rintro e u3 ⟨rfl,hb⟩
 have zm:w.heap.size+1<u3.heap.size:=nla PZ3.out hb.size
 have um3_0:u3.cell? ⟨w.heap.size+1,0,none⟩=some (.int .u64 ad):=cell_next hb PZ3.out PM3.out.1
 have um3_1:u3.cell? ⟨w.heap.size+1,1,none⟩=some (.int .i64 cd):=cell_next hb PZ3.out PM3.out.2
 have WU:Hid (Way u3 (w.heap.size+2) v3 3 (((([]:List Value)++((sc1 A0 X0 y00 y01 y02 y03 y04 y05 y06 y07 f0 4):List Value))++((sc1 A1 X1 y10 y11 y12 y13 y14 y15 y16 y17 f1 3):List Value))++((sc1 A2 X2 y20 y21 y22 y23 y24 false y26 y27 f2 2):List Value))):=PW3.out.keep hb
 have BU:Hid (bc w u3):=below_then PB3.out hb
 have ZM:Hid (w.heap.size+1<u3.heap.size):=zm
 have MM:Hid (u3.cell? ⟨w.heap.size+1,0,none⟩=some (.int .u64 ad)/\u3.cell? ⟨w.heap.size+1,1,none⟩=some (.int .i64 cd)):=⟨um3_0,um3_1⟩
 clear hb zm um3_0 um3_1 PB3 PZ3 PM3 PW3 pm3_0 pm3_1
 have OW:Hid (((u3.alloc (.cells (sb1 A3 X3 y30 y31 y32 y33 y34 y35 y36 y37 f3 1) 167)).alloc (.cells (sb1 A3 X3 y30 y31 y32 y33 y34 y35 y36 y37 f3 1) 167)).ownsRow (w.heap.size+2) 167 12 v3 3 (((([]:List Value)++((sc1 A0 X0 y00 y01 y02 y03 y04 y05 y06 y07 f0 4):List Value))++((sc1 A1 X1 y10 y11 y12 y13 y14 y15 y16 y17 f1 3):List Value))++((sc1 A2 X2 y20 y21 y22 y23 y24 false y26 y27 f2 2):List Value))):=(WU.out.keep (Go.Joins.below_alloc2 _ _ _)).1
 have NW:Hid (∀ j x,((sc1 A3 X3 y30 y31 y32 y33 y34 y35 y36 y37 f3 1):List Value)[j]? =some x->((u3.alloc (.cells (sb1 A3 X3 y30 y31 y32 y33 y34 y35 y36 y37 f3 1) 167)).alloc (.cells (sb1 A3 X3 y30 y31 y32 y33 y34 y35 y36 y37 f3 1) 167)).cell? ((⟨u3.heap.size+1,0,none⟩:Addr).add j)=some x):=news_cells u3 _ (sb1 A3 X3 y30 y31 y32 y33 y34 y35 y36 y37 f3 1) 167
 have ON:Hid (∀ x∈((sc1 A3 X3 y30 y31 y32 y33 y34 y35 y36 y37 f3 1):List Value),x.oneCell'=true):=by show ∀ x∈((sc1 A3 X3 y30 y31 y32 y33 y34 y35 y36 y37 f3 1):List Value),x.oneCell'=true;simp [Value.oneCell']
 have HZ:Hid (w.heap.size+2<=((u3.alloc (.cells (sb1 A3 X3 y30 y31 y32 y33 y34 y35 y36 y37 f3 1) 167)).alloc (.cells (sb1 A3 X3 y30 y31 y32 y33 y34 y35 y36 y37 f3 1) 167)).heap.size):=km1
 go_wp2_with (at_builtin;refine wpList_append_own _ rfl _ _ 160 rfl (w.heap.size+2) 167 i0 zstep 12 40 Tryz.underlying160 hi hz0 hz1 hz2 rfl (by decide) v3 3 (((([]:List Value)++((sc1 A0 X0 y00 y01 y02 y03 y04 y05 y06 y07 f0 4):List Value))++((sc1 A1 X1 y10 y11 y12 y13 y14 y15 y16 y17 f1 3):List Value))++((sc1 A2 X2 y20 y21 y22 y23 y24 false y26 y27 f2 2):List Value)) rfl OW.out ⟨u3.heap.size+1,0,none⟩ 1 1 ((sc1 A3 X3 y30 y31 y32 y33 y34 y35 y36 y37 f3 1):List Value) rfl rfl NW.out ON.out MX3.out (by decide) HZ.out ?_;intro v4 a3 hown hg hnil;have WA:Hid (Way a3 (w.heap.size+2) v4 4 ((((([]:List Value)++((sc1 A0 X0 y00 y01 y02 y03 y04 y05 y06 y07 f0 4):List Value))++((sc1 A1 X1 y10 y11 y12 y13 y14 y15 y16 y17 f1 3):List Value))++((sc1 A2 X2 y20 y21 y22 y23 y24 false y26 y27 f2 2):List Value))++((sc1 A3 X3 y30 y31 y32 y33 y34 y35 y36 y37 f3 1):List Value))):=Way.of_own hown (by omega);have BA:Hid (bc w a3):=(below_new2 BU.out _ _).grown hg (below_new2 BU.out _ _).size (fun j e=>by obtain ⟨g,h1,h2,h3⟩:=WU.out.own;rw [h1] at e;cases e;omega);have s3_0:a3.cell? ⟨u3.heap.size,0,none⟩=some (.int .u64 A3):=cell_grown hg kl1 kn1 (Go.Joins.cell_of_block (own2a u3 _ _) 0);have s3_1:a3.cell? ⟨u3.heap.size,1,none⟩=some (.int .u64 X3):=cell_grown hg kl1 kn1 (Go.Joins.cell_of_block (own2a u3 _ _) 1);have s3_2:a3.cell? ⟨u3.heap.size,2,none⟩=some (.bool y30):=cell_grown hg kl1 kn1 (Go.Joins.cell_of_block (own2a u3 _ _) 2);have s3_3:a3.cell? ⟨u3.heap.size,3,none⟩=some (.bool y31):=cell_grown hg kl1 kn1 (Go.Joins.cell_of_block (own2a u3 _ _) 3);have s3_4:a3.cell? ⟨u3.heap.size,4,none⟩=some (.bool y32):=cell_grown hg kl1 kn1 (Go.Joins.cell_of_block (own2a u3 _ _) 4);have s3_5:a3.cell? ⟨u3.heap.size,5,none⟩=some (.bool y33):=cell_grown hg kl1 kn1 (Go.Joins.cell_of_block (own2a u3 _ _) 5);have s3_6:a3.cell? ⟨u3.heap.size,6,none⟩=some (.bool y34):=cell_grown hg kl1 kn1 (Go.Joins.cell_of_block (own2a u3 _ _) 6);have s3_7:a3.cell? ⟨u3.heap.size,7,none⟩=some (.bool y35):=cell_grown hg kl1 kn1 (Go.Joins.cell_of_block (own2a u3 _ _) 7);have s3_8:a3.cell? ⟨u3.heap.size,8,none⟩=some (.bool y36):=cell_grown hg kl1 kn1 (Go.Joins.cell_of_block (own2a u3 _ _) 8);have s3_9:a3.cell? ⟨u3.heap.size,9,none⟩=some (.bool y37):=cell_grown hg kl1 kn1 (Go.Joins.cell_of_block (own2a u3 _ _) 9);have s3_10:a3.cell? ⟨u3.heap.size,10,none⟩=some (.int .i64 f3):=cell_grown hg kl1 kn1 (Go.Joins.cell_of_block (own2a u3 _ _) 10);have s3_11:a3.cell? ⟨u3.heap.size,11,none⟩=some (.int .i64 1):=cell_grown hg kl1 kn1 (Go.Joins.cell_of_block (own2a u3 _ _) 11);have SZ:u3.heap.size<a3.heap.size:=nla kl1 hg.size;have am3_0:a3.cell? ⟨w.heap.size+1,0,none⟩=some (.int .u64 ad):=cell_grown hg ko1 kn1 ((cell_old2 ZM.out _ _).trans MM.out.1);have am3_1:a3.cell? ⟨w.heap.size+1,1,none⟩=some (.int .i64 cd):=cell_grown hg ko1 kn1 ((cell_old2 ZM.out _ _).trans MM.out.2);have AZ:Hid (w.heap.size+1<a3.heap.size):=Nat.lt_trans ZM.out SZ;have AS:Hid (u3.heap.size<a3.heap.size):=SZ;have AM:Hid (a3.cell? ⟨w.heap.size+1,0,none⟩=some (.int .u64 ad)/\a3.cell? ⟨w.heap.size+1,1,none⟩=some (.int .i64 cd)):=⟨am3_0,am3_1⟩;clear hown hg hnil OW NW ON HZ am3_0 am3_1 WU BU MM ZM SZ)
 refine (g3.out _).mono ?_
 rintro e b3 ⟨rfl,hb⟩
 have t3_10:b3.cell? ⟨u3.heap.size,10,none⟩=some (.int .i64 f3):=cell_next hb AS.out s3_10
 have pm4_0:b3.cell? ⟨w.heap.size+1,0,none⟩=some (.int .u64 ad):=cell_next hb AZ.out AM.out.1
 have pm4_1:b3.cell? ⟨w.heap.size+1,1,none⟩=some (.int .i64 cd):=cell_next hb AZ.out AM.out.2
 have PB4:Hid (bc w b3):=below_then BA.out hb
 have PZ4:Hid (w.heap.size+1<b3.heap.size):=nla AZ.out hb.size
 have PM4:Hid (b3.cell? ⟨w.heap.size+1,0,none⟩=some (.int .u64 ad)/\b3.cell? ⟨w.heap.size+1,1,none⟩=some (.int .i64 cd)):=⟨pm4_0,pm4_1⟩
 have PW4:Hid (Way b3 (w.heap.size+2) v4 4 ((((([]:List Value)++((sc1 A0 X0 y00 y01 y02 y03 y04 y05 y06 y07 f0 4):List Value))++((sc1 A1 X1 y10 y11 y12 y13 y14 y15 y16 y17 f1 3):List Value))++((sc1 A2 X2 y20 y21 y22 y23 y24 false y26 y27 f2 2):List Value))++((sc1 A3 X3 y30 y31 y32 y33 y34 y35 y36 y37 f3 1):List Value))):=WA.out.keep hb
 clear hb WA BA AM AZ AS s3_0 s3_1 s3_2 s3_3 s3_4 s3_5 s3_6 s3_7 s3_8 s3_9 s3_10 s3_11
 go_wp2_with fail
 rw [rounds_succ]
 go_wp2_with fail
 go_ret
 exact ⟨v4,rfl,PW4.out,PB4.out⟩
end Go.Proofs.YtgbdnnkkcpkhdaaGreatDoor
