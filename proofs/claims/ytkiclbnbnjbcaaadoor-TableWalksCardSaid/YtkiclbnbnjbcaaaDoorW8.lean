import Derived.Test.YtkiclbnbnjbcaaaDoorW5
namespace Go.Proofs.YtkiclbnbnjbcaaaDoor
open Go.ChangeShapes Go.WideShapes Go.ChangeAt Go.RowKit Go.Maps
set_option linter.unusedSimpArgs false
set_option linter.unusedVariables false
set_option maxRecDepth 8000
abbrev zW8a (x0 x1:Int) (x2 x3 x4 x5 x6 x7 x8 x9:Bool) (x10 x11:Int):List Value:=[.int .u64 x0,.int .u64 x1,.bool x2,.bool x3,.bool x4,.bool x5,.bool x6,.bool x7,.bool x8,.bool x9,.int .i64 x10,.int .i64 x11]
abbrev zW8b (x0 x1 x2 x3 x4 x5 x6 x7:Bool) (x8:Int):Array Value:=#[.bool x0,.bool x1,.bool x2,.bool x3,.bool x4,.bool x5,.bool x6,.bool x7,.int .i64 x8]
abbrev zW8c (x0:Value) (x1 x2 x3:Int):Array Value:=#[x0,.int .u64 x1,.int .i64 x2,.int .u64 x3]
theorem sz2a (w:World) (o p:Obj):w.heap.size<((w.alloc o).alloc p).heap.size:=by rw [World.size_alloc,World.size_alloc];omega
theorem Tab.kept {w w':World} {K:Nat->Prop} (h:Tab w) (hb:Kept K w w') (hK:K 0):Tab w':=by
 have e:w'.heap[0]? =w.heap[0]? :=hb.block 0 hK
 have hc: ∀ i,w'.cell? ⟨0,i,none⟩=w.cell? ⟨0,i,none⟩:=fun i=>by simp [World.cell?,e]
 refine ⟨Nat.lt_of_lt_of_le h.1 hb.size,?_⟩
 simp only [hc]
 exact h.2
theorem way_block {w:World} {base n g cap:Nat} {xs:List Value} (h:(.slice (some ⟨g,0,none⟩) n cap:Value)=.slice none 0 0/\n=0 \/
 ∃ g' cap' cur,(.slice (some ⟨g,0,none⟩) n cap:Value)=.slice (some ⟨g',0,none⟩) n cap'/\base<=g'/\w.heap[g']? =some (.cells cur 131 (0,0))/\n<=cap'/\cap'<=maxLen/\cur.size=cap'*12/\cur.toList.take (n*12)=xs) (hg:g<w.heap.size) :
  ∃ cur,w.heap[g]? =some (.cells cur 131 (0,0))/\ ∀ (j:Nat) (x:Value),xs[j]? =some x->cur[j]? =some x:=by
 rcases h with ⟨h,_⟩ | ⟨g',cap',cur,e1,e2,e3,e4,e5,e6,e7⟩
 . cases h
 . cases e1
   refine ⟨cur,e3,fun j x hx=> ?_⟩
   rw [<- e7,List.getElem?_take] at hx
   split at hx
   . rw [Array.getElem?_toList] at hx;exact hx
   . cases hx
set_option maxHeartbeats 2000000 in
theorem mark3r {K:Nat->Prop} {rb m:Nat} {has:Int->Bool} {F:Int} {M:Int->Int} (hm:m+100<maxLen) (A0 X0 f0:Int) (y00 y01 y02 y03 y04 y05 y06 y07:Bool) (A1 X1 f1:Int) (y10 y11 y12 y13 y14 y15 y16 y17:Bool) (A2 X2 f2:Int) (y20 y21 y22 y23 y24 y26 y27:Bool) (Y0 Y1 Y2:Int) (a0:0<=A0) (b0:A0<18446744073709551616) (k0:chkG has A0 8=0) (o0:bits .or .u64 X0 32=Y0) (c0:0<=Y0) (d0:Y0<18446744073709551616) (a1:0<=A1) (b1:A1<18446744073709551616) (k1:chkG has A1 8=0) (o1:bits .or .u64 X1 32=Y1) (c1:0<=Y1) (d1:Y1<18446744073709551616) (a2:0<=A2) (b2:A2<18446744073709551616) (k2:chkG has A2 8=0) (o2:bits .or .u64 X2 32=Y2) (c2:0<=Y2) (d2:Y2<18446744073709551616)
 (base:Nat) (v:Value) (w:World) (h:Way w base v 3 (((([]:List Value)++((zW8a A0 X0 y00 y01 y02 y03 y04 y05 y06 y07 f0 4):List Value))++((zW8a A1 X1 y10 y11 y12 y13 y14 y15 y16 y17 f1 3):List Value))++((zW8a A2 X2 y20 y21 y22 y23 y24 true y26 y27 f2 2):List Value))) (hK: ∀ j,base<=j->j<w.heap.size->K j) (k0':K 0) (ht:Tab w) (hI:IsRamK w K rb has F M m) :
 Calls Tryd.prog 54 #[.pointer (some ⟨rb,0,none⟩),v,.bool false] w fun e w'=>e=.returned (.tuple #[])/\IsRamK w' K rb has F (mset (mset (mset M A0 8 Y0) A1 8 Y1) A2 8 Y2) (m+6)/\Kept K w w'/\Tab w':=by
 obtain ⟨⟨hlen,hrow⟩,g,cap,rfl,hg1,hg2⟩:=h
 obtain ⟨cur,hcur,hcx⟩:=way_block hrow hg2
 have KG:Hid (K g):=hK g hg1 hg2
 have KZ:Hid (K 0):=k0'
 have C0:Hid (w.heap[g]? =some (.cells cur 131 (0,0))):=hcur
 have CX:Hid (∀ (j:Nat) (x:Value),(((([]:List Value)++((zW8a A0 X0 y00 y01 y02 y03 y04 y05 y06 y07 f0 4):List Value))++((zW8a A1 X1 y10 y11 y12 y13 y14 y15 y16 y17 f1 3):List Value))++((zW8a A2 X2 y20 y21 y22 y23 y24 true y26 y27 f2 2):List Value))[j]? =some x->cur[j]? =some x):=hcx
 have T0:Hid (Tab w):=ht
 have I0:Hid (IsRamK w K rb has F M m):=hI
 have P:Hid (∀ w:World,Tab w->Calls Tryd.prog 69 #[.agg (zW8b false false false true false false false false 0)] w fun e w'=>e=.returned (.tuple #[.int .u64 32,.int .i64 0])/\Below w.heap.size w w'):=fun w ht=>pack_ok false false false true false false false false 0 (by omega) (by omega) w ht
 have P':Hid (∀ w:World,Tab w->Calls Tryd.prog 69 #[.agg (zW8b false false false true true false false false 0)] w fun e w'=>e=.returned (.tuple #[.int .u64 96,.int .i64 0])/\Below w.heap.size w w'):=fun w ht=>pack_ok false false false true true false false false 0 (by omega) (by omega) w ht
 have S0:Hid (∀ w:World,IsRamK w K rb has F M (m+0)->Calls Tryd.prog 70 (zW8c (.pointer (some ⟨rb,0,none⟩)) A0 8 Y0) w fun e w'=>e=.returned (.int .i64 0)/\IsRamK w' K rb has F (mset M A0 8 Y0) (m+2)/\Kept K w w'):=fun w h=>store_K h (by omega) A0 8 Y0 a0 b0 k0 c0 d0
 have S1:Hid (∀ w:World,IsRamK w K rb has F (mset M A0 8 Y0) (m+2)->Calls Tryd.prog 70 (zW8c (.pointer (some ⟨rb,0,none⟩)) A1 8 Y1) w fun e w'=>e=.returned (.int .i64 0)/\IsRamK w' K rb has F (mset (mset M A0 8 Y0) A1 8 Y1) (m+4)/\Kept K w w'):=fun w h=>store_K h (by omega) A1 8 Y1 a1 b1 k1 c1 d1
 have S2:Hid (∀ w:World,IsRamK w K rb has F (mset (mset M A0 8 Y0) A1 8 Y1) (m+4)->Calls Tryd.prog 70 (zW8c (.pointer (some ⟨rb,0,none⟩)) A2 8 Y2) w fun e w'=>e=.returned (.int .i64 0)/\IsRamK w' K rb has F (mset (mset (mset M A0 8 Y0) A1 8 Y1) A2 8 Y2) (m+6)/\Kept K w w'):=fun w h=>store_K h (by omega) A2 8 Y2 a2 b2 k2 c2 d2
 have q0_0:w.cell? ⟨g,0,none⟩=some (.int .u64 A0):=(Go.Joins.cell_of_block hcur 0).trans (hcx 0 _ rfl)
 have q0_1:w.cell? ⟨g,1,none⟩=some (.int .u64 X0):=(Go.Joins.cell_of_block hcur 1).trans (hcx 1 _ rfl)
 have q0_2:w.cell? ⟨g,2,none⟩=some (.bool y00):=(Go.Joins.cell_of_block hcur 2).trans (hcx 2 _ rfl)
 have q0_3:w.cell? ⟨g,3,none⟩=some (.bool y01):=(Go.Joins.cell_of_block hcur 3).trans (hcx 3 _ rfl)
 have q0_4:w.cell? ⟨g,4,none⟩=some (.bool y02):=(Go.Joins.cell_of_block hcur 4).trans (hcx 4 _ rfl)
 have q0_5:w.cell? ⟨g,5,none⟩=some (.bool y03):=(Go.Joins.cell_of_block hcur 5).trans (hcx 5 _ rfl)
 have q0_6:w.cell? ⟨g,6,none⟩=some (.bool y04):=(Go.Joins.cell_of_block hcur 6).trans (hcx 6 _ rfl)
 have q0_7:w.cell? ⟨g,7,none⟩=some (.bool y05):=(Go.Joins.cell_of_block hcur 7).trans (hcx 7 _ rfl)
 have q0_8:w.cell? ⟨g,8,none⟩=some (.bool y06):=(Go.Joins.cell_of_block hcur 8).trans (hcx 8 _ rfl)
 have q0_9:w.cell? ⟨g,9,none⟩=some (.bool y07):=(Go.Joins.cell_of_block hcur 9).trans (hcx 9 _ rfl)
 have q0_10:w.cell? ⟨g,10,none⟩=some (.int .i64 f0):=(Go.Joins.cell_of_block hcur 10).trans (hcx 10 _ rfl)
 have q0_11:w.cell? ⟨g,11,none⟩=some (.int .i64 4):=(Go.Joins.cell_of_block hcur 11).trans (hcx 11 _ rfl)
 clear hcur hcx hrow hlen hK k0' ht hI a0 b0 k0 c0 d0 a1 b1 k1 c1 d1 a2 b2 k2 c2 d2
 go_enter Tryd.func54,Tryd.ntmps54
 go_wp2_with fail
 refine wp_loop_rounds 4 ?_
 rw [rounds_succ]
 go_wp2_with fail
 refine (P.out _ (T0.out.keep (Go.Joins.below_alloc2 _ _ _))).mono ?_
 rintro e u0 ⟨rfl,hb⟩
 have BU0:Hid (Below w.heap.size w u0):=below_then (Go.Joins.below_alloc2 _ _ _) hb
 have us0_0:u0.cell? ⟨w.heap.size,0,none⟩=some (.int .u64 A0):=cell_next hb (sz2a w _ _) (Go.Joins.cell_of_block (own2a w _ _) 0)
 have us0_1:u0.cell? ⟨w.heap.size,1,none⟩=some (.int .u64 X0):=cell_next hb (sz2a w _ _) (Go.Joins.cell_of_block (own2a w _ _) 1)
 clear hb q0_0 q0_1 q0_2 q0_3 q0_4 q0_5 q0_6 q0_7 q0_8 q0_9 q0_10 q0_11
 go_wp2_with fail
 refine (S0.out _ (I0.out.grown (grown_of_below' BU0.out))).mono ?_
 rintro e w1 ⟨rfl,hI,hk⟩
 have I1:Hid (IsRamK w1 K rb has F (mset M A0 8 Y0) (m+2)):=hI
 have C1:Hid (w1.heap[g]? =some (.cells cur 131 (0,0))):=(hk.block g KG.out).trans ((BU0.out.block g (Array.getElem?_eq_some_iff.1 C0.out).1).trans C0.out)
 have T1:Hid (Tab w1):=(T0.out.keep BU0.out).kept hk KZ.out
 have N1:Hid (Kept K w w1):=Kept.trans (kept_of_below BU0.out I0.out.dom) hk
 have q1_0:w1.cell? ⟨g,12,none⟩=some (.int .u64 A1):=(Go.Joins.cell_of_block C1.out 12).trans (CX.out 12 _ rfl)
 have q1_1:w1.cell? ⟨g,13,none⟩=some (.int .u64 X1):=(Go.Joins.cell_of_block C1.out 13).trans (CX.out 13 _ rfl)
 have q1_2:w1.cell? ⟨g,14,none⟩=some (.bool y10):=(Go.Joins.cell_of_block C1.out 14).trans (CX.out 14 _ rfl)
 have q1_3:w1.cell? ⟨g,15,none⟩=some (.bool y11):=(Go.Joins.cell_of_block C1.out 15).trans (CX.out 15 _ rfl)
 have q1_4:w1.cell? ⟨g,16,none⟩=some (.bool y12):=(Go.Joins.cell_of_block C1.out 16).trans (CX.out 16 _ rfl)
 have q1_5:w1.cell? ⟨g,17,none⟩=some (.bool y13):=(Go.Joins.cell_of_block C1.out 17).trans (CX.out 17 _ rfl)
 have q1_6:w1.cell? ⟨g,18,none⟩=some (.bool y14):=(Go.Joins.cell_of_block C1.out 18).trans (CX.out 18 _ rfl)
 have q1_7:w1.cell? ⟨g,19,none⟩=some (.bool y15):=(Go.Joins.cell_of_block C1.out 19).trans (CX.out 19 _ rfl)
 have q1_8:w1.cell? ⟨g,20,none⟩=some (.bool y16):=(Go.Joins.cell_of_block C1.out 20).trans (CX.out 20 _ rfl)
 have q1_9:w1.cell? ⟨g,21,none⟩=some (.bool y17):=(Go.Joins.cell_of_block C1.out 21).trans (CX.out 21 _ rfl)
 have q1_10:w1.cell? ⟨g,22,none⟩=some (.int .i64 f1):=(Go.Joins.cell_of_block C1.out 22).trans (CX.out 22 _ rfl)
 have q1_11:w1.cell? ⟨g,23,none⟩=some (.int .i64 3):=(Go.Joins.cell_of_block C1.out 23).trans (CX.out 23 _ rfl)
 have gz1:g<w1.heap.size:=(Array.getElem?_eq_some_iff.1 C1.out).1
 clear hI hk us0_0 us0_1 BU0 I0 C0 S0
 go_wp2_with fail
 rw [rounds_succ]
 go_wp2_with fail
 refine (P.out _ (T1.out.keep (Go.Joins.below_alloc2 _ _ _))).mono ?_
 rintro e u1 ⟨rfl,hb⟩
 have BU1:Hid (Below w1.heap.size w1 u1):=below_then (Go.Joins.below_alloc2 _ _ _) hb
 have us1_0:u1.cell? ⟨w1.heap.size,0,none⟩=some (.int .u64 A1):=cell_next hb (sz2a w1 _ _) (Go.Joins.cell_of_block (own2a w1 _ _) 0)
 have us1_1:u1.cell? ⟨w1.heap.size,1,none⟩=some (.int .u64 X1):=cell_next hb (sz2a w1 _ _) (Go.Joins.cell_of_block (own2a w1 _ _) 1)
 clear hb q1_0 q1_1 q1_2 q1_3 q1_4 q1_5 q1_6 q1_7 q1_8 q1_9 q1_10 q1_11
 go_wp2_with fail
 refine (S1.out _ (I1.out.grown (grown_of_below' BU1.out))).mono ?_
 rintro e w2 ⟨rfl,hI,hk⟩
 have I2:Hid (IsRamK w2 K rb has F (mset (mset M A0 8 Y0) A1 8 Y1) (m+4)):=hI
 have C2:Hid (w2.heap[g]? =some (.cells cur 131 (0,0))):=(hk.block g KG.out).trans ((BU1.out.block g (Array.getElem?_eq_some_iff.1 C1.out).1).trans C1.out)
 have T2:Hid (Tab w2):=(T1.out.keep BU1.out).kept hk KZ.out
 have N2:Hid (Kept K w w2):=(N1.out.trans (kept_of_below BU1.out I1.out.dom)).trans hk
 have q2_0:w2.cell? ⟨g,24,none⟩=some (.int .u64 A2):=(Go.Joins.cell_of_block C2.out 24).trans (CX.out 24 _ rfl)
 have q2_1:w2.cell? ⟨g,25,none⟩=some (.int .u64 X2):=(Go.Joins.cell_of_block C2.out 25).trans (CX.out 25 _ rfl)
 have q2_2:w2.cell? ⟨g,26,none⟩=some (.bool y20):=(Go.Joins.cell_of_block C2.out 26).trans (CX.out 26 _ rfl)
 have q2_3:w2.cell? ⟨g,27,none⟩=some (.bool y21):=(Go.Joins.cell_of_block C2.out 27).trans (CX.out 27 _ rfl)
 have q2_4:w2.cell? ⟨g,28,none⟩=some (.bool y22):=(Go.Joins.cell_of_block C2.out 28).trans (CX.out 28 _ rfl)
 have q2_5:w2.cell? ⟨g,29,none⟩=some (.bool y23):=(Go.Joins.cell_of_block C2.out 29).trans (CX.out 29 _ rfl)
 have q2_6:w2.cell? ⟨g,30,none⟩=some (.bool y24):=(Go.Joins.cell_of_block C2.out 30).trans (CX.out 30 _ rfl)
 have q2_7:w2.cell? ⟨g,31,none⟩=some (.bool true):=(Go.Joins.cell_of_block C2.out 31).trans (CX.out 31 _ rfl)
 have q2_8:w2.cell? ⟨g,32,none⟩=some (.bool y26):=(Go.Joins.cell_of_block C2.out 32).trans (CX.out 32 _ rfl)
 have q2_9:w2.cell? ⟨g,33,none⟩=some (.bool y27):=(Go.Joins.cell_of_block C2.out 33).trans (CX.out 33 _ rfl)
 have q2_10:w2.cell? ⟨g,34,none⟩=some (.int .i64 f2):=(Go.Joins.cell_of_block C2.out 34).trans (CX.out 34 _ rfl)
 have q2_11:w2.cell? ⟨g,35,none⟩=some (.int .i64 2):=(Go.Joins.cell_of_block C2.out 35).trans (CX.out 35 _ rfl)
 have gz2:g<w2.heap.size:=(Array.getElem?_eq_some_iff.1 C2.out).1
 clear hI hk us1_0 us1_1 BU1 I1 C1 S1
 go_wp2_with fail
 rw [rounds_succ]
 go_wp2_with fail
 refine (P.out _ (T2.out.keep (Go.Joins.below_alloc2 _ _ _))).mono ?_
 rintro e u2 ⟨rfl,hb⟩
 have BU2:Hid (Below w2.heap.size w2 u2):=below_then (Go.Joins.below_alloc2 _ _ _) hb
 have us2_0:u2.cell? ⟨w2.heap.size,0,none⟩=some (.int .u64 A2):=cell_next hb (sz2a w2 _ _) (Go.Joins.cell_of_block (own2a w2 _ _) 0)
 have us2_1:u2.cell? ⟨w2.heap.size,1,none⟩=some (.int .u64 X2):=cell_next hb (sz2a w2 _ _) (Go.Joins.cell_of_block (own2a w2 _ _) 1)
 clear hb q2_0 q2_1 q2_2 q2_3 q2_4 q2_5 q2_6 q2_7 q2_8 q2_9 q2_10 q2_11
 go_wp2_with fail
 refine (S2.out _ (I2.out.grown (grown_of_below' BU2.out))).mono ?_
 rintro e w3 ⟨rfl,hI,hk⟩
 have I3:Hid (IsRamK w3 K rb has F (mset (mset (mset M A0 8 Y0) A1 8 Y1) A2 8 Y2) (m+6)):=hI
 have C3:Hid (w3.heap[g]? =some (.cells cur 131 (0,0))):=(hk.block g KG.out).trans ((BU2.out.block g (Array.getElem?_eq_some_iff.1 C2.out).1).trans C2.out)
 have T3:Hid (Tab w3):=(T2.out.keep BU2.out).kept hk KZ.out
 have N3:Hid (Kept K w w3):=(N2.out.trans (kept_of_below BU2.out I2.out.dom)).trans hk
 clear hI hk us2_0 us2_1 BU2 I2 C2 S2
 go_wp2_with fail
 rw [rounds_succ]
 go_wp2_with fail
 go_end0
 exact ⟨rfl,I3.out,N3.out,T3.out⟩
set_option maxHeartbeats 2000000 in
theorem mark3w {K:Nat->Prop} {rb m:Nat} {has:Int->Bool} {F:Int} {M:Int->Int} (hm:m+100<maxLen) (A0 X0 f0:Int) (y00 y01 y02 y03 y04 y05 y06 y07:Bool) (A1 X1 f1:Int) (y10 y11 y12 y13 y14 y15 y16 y17:Bool) (A2 X2 f2:Int) (y20 y21 y22 y23 y24 y26 y27:Bool) (Y0 Y1 Y2:Int) (a0:0<=A0) (b0:A0<18446744073709551616) (k0:chkG has A0 8=0) (o0:bits .or .u64 X0 32=Y0) (c0:0<=Y0) (d0:Y0<18446744073709551616) (a1:0<=A1) (b1:A1<18446744073709551616) (k1:chkG has A1 8=0) (o1:bits .or .u64 X1 32=Y1) (c1:0<=Y1) (d1:Y1<18446744073709551616) (a2:0<=A2) (b2:A2<18446744073709551616) (k2:chkG has A2 8=0) (o2:bits .or .u64 X2 96=Y2) (c2:0<=Y2) (d2:Y2<18446744073709551616)
 (base:Nat) (v:Value) (w:World) (h:Way w base v 3 (((([]:List Value)++((zW8a A0 X0 y00 y01 y02 y03 y04 y05 y06 y07 f0 4):List Value))++((zW8a A1 X1 y10 y11 y12 y13 y14 y15 y16 y17 f1 3):List Value))++((zW8a A2 X2 y20 y21 y22 y23 y24 true y26 y27 f2 2):List Value))) (hK: ∀ j,base<=j->j<w.heap.size->K j) (k0':K 0) (ht:Tab w) (hI:IsRamK w K rb has F M m) :
 Calls Tryd.prog 54 #[.pointer (some ⟨rb,0,none⟩),v,.bool true] w fun e w'=>e=.returned (.tuple #[])/\IsRamK w' K rb has F (mset (mset (mset M A0 8 Y0) A1 8 Y1) A2 8 Y2) (m+6)/\Kept K w w'/\Tab w':=by
 obtain ⟨⟨hlen,hrow⟩,g,cap,rfl,hg1,hg2⟩:=h
 obtain ⟨cur,hcur,hcx⟩:=way_block hrow hg2
 have KG:Hid (K g):=hK g hg1 hg2
 have KZ:Hid (K 0):=k0'
 have C0:Hid (w.heap[g]? =some (.cells cur 131 (0,0))):=hcur
 have CX:Hid (∀ (j:Nat) (x:Value),(((([]:List Value)++((zW8a A0 X0 y00 y01 y02 y03 y04 y05 y06 y07 f0 4):List Value))++((zW8a A1 X1 y10 y11 y12 y13 y14 y15 y16 y17 f1 3):List Value))++((zW8a A2 X2 y20 y21 y22 y23 y24 true y26 y27 f2 2):List Value))[j]? =some x->cur[j]? =some x):=hcx
 have T0:Hid (Tab w):=ht
 have I0:Hid (IsRamK w K rb has F M m):=hI
 have P:Hid (∀ w:World,Tab w->Calls Tryd.prog 69 #[.agg (zW8b false false false true false false false false 0)] w fun e w'=>e=.returned (.tuple #[.int .u64 32,.int .i64 0])/\Below w.heap.size w w'):=fun w ht=>pack_ok false false false true false false false false 0 (by omega) (by omega) w ht
 have P':Hid (∀ w:World,Tab w->Calls Tryd.prog 69 #[.agg (zW8b false false false true true false false false 0)] w fun e w'=>e=.returned (.tuple #[.int .u64 96,.int .i64 0])/\Below w.heap.size w w'):=fun w ht=>pack_ok false false false true true false false false 0 (by omega) (by omega) w ht
 have S0:Hid (∀ w:World,IsRamK w K rb has F M (m+0)->Calls Tryd.prog 70 (zW8c (.pointer (some ⟨rb,0,none⟩)) A0 8 Y0) w fun e w'=>e=.returned (.int .i64 0)/\IsRamK w' K rb has F (mset M A0 8 Y0) (m+2)/\Kept K w w'):=fun w h=>store_K h (by omega) A0 8 Y0 a0 b0 k0 c0 d0
 have S1:Hid (∀ w:World,IsRamK w K rb has F (mset M A0 8 Y0) (m+2)->Calls Tryd.prog 70 (zW8c (.pointer (some ⟨rb,0,none⟩)) A1 8 Y1) w fun e w'=>e=.returned (.int .i64 0)/\IsRamK w' K rb has F (mset (mset M A0 8 Y0) A1 8 Y1) (m+4)/\Kept K w w'):=fun w h=>store_K h (by omega) A1 8 Y1 a1 b1 k1 c1 d1
 have S2:Hid (∀ w:World,IsRamK w K rb has F (mset (mset M A0 8 Y0) A1 8 Y1) (m+4)->Calls Tryd.prog 70 (zW8c (.pointer (some ⟨rb,0,none⟩)) A2 8 Y2) w fun e w'=>e=.returned (.int .i64 0)/\IsRamK w' K rb has F (mset (mset (mset M A0 8 Y0) A1 8 Y1) A2 8 Y2) (m+6)/\Kept K w w'):=fun w h=>store_K h (by omega) A2 8 Y2 a2 b2 k2 c2 d2
 have q0_0:w.cell? ⟨g,0,none⟩=some (.int .u64 A0):=(Go.Joins.cell_of_block hcur 0).trans (hcx 0 _ rfl)
 have q0_1:w.cell? ⟨g,1,none⟩=some (.int .u64 X0):=(Go.Joins.cell_of_block hcur 1).trans (hcx 1 _ rfl)
 have q0_2:w.cell? ⟨g,2,none⟩=some (.bool y00):=(Go.Joins.cell_of_block hcur 2).trans (hcx 2 _ rfl)
 have q0_3:w.cell? ⟨g,3,none⟩=some (.bool y01):=(Go.Joins.cell_of_block hcur 3).trans (hcx 3 _ rfl)
 have q0_4:w.cell? ⟨g,4,none⟩=some (.bool y02):=(Go.Joins.cell_of_block hcur 4).trans (hcx 4 _ rfl)
 have q0_5:w.cell? ⟨g,5,none⟩=some (.bool y03):=(Go.Joins.cell_of_block hcur 5).trans (hcx 5 _ rfl)
 have q0_6:w.cell? ⟨g,6,none⟩=some (.bool y04):=(Go.Joins.cell_of_block hcur 6).trans (hcx 6 _ rfl)
 have q0_7:w.cell? ⟨g,7,none⟩=some (.bool y05):=(Go.Joins.cell_of_block hcur 7).trans (hcx 7 _ rfl)
 have q0_8:w.cell? ⟨g,8,none⟩=some (.bool y06):=(Go.Joins.cell_of_block hcur 8).trans (hcx 8 _ rfl)
 have q0_9:w.cell? ⟨g,9,none⟩=some (.bool y07):=(Go.Joins.cell_of_block hcur 9).trans (hcx 9 _ rfl)
 have q0_10:w.cell? ⟨g,10,none⟩=some (.int .i64 f0):=(Go.Joins.cell_of_block hcur 10).trans (hcx 10 _ rfl)
 have q0_11:w.cell? ⟨g,11,none⟩=some (.int .i64 4):=(Go.Joins.cell_of_block hcur 11).trans (hcx 11 _ rfl)
 clear hcur hcx hrow hlen hK k0' ht hI a0 b0 k0 c0 d0 a1 b1 k1 c1 d1 a2 b2 k2 c2 d2
 go_enter Tryd.func54,Tryd.ntmps54
 go_wp2_with fail
 refine wp_loop_rounds 4 ?_
 rw [rounds_succ]
 go_wp2_with fail
 refine (P.out _ (T0.out.keep (Go.Joins.below_alloc2 _ _ _))).mono ?_
 rintro e u0 ⟨rfl,hb⟩
 have BU0:Hid (Below w.heap.size w u0):=below_then (Go.Joins.below_alloc2 _ _ _) hb
 have us0_0:u0.cell? ⟨w.heap.size,0,none⟩=some (.int .u64 A0):=cell_next hb (sz2a w _ _) (Go.Joins.cell_of_block (own2a w _ _) 0)
 have us0_1:u0.cell? ⟨w.heap.size,1,none⟩=some (.int .u64 X0):=cell_next hb (sz2a w _ _) (Go.Joins.cell_of_block (own2a w _ _) 1)
 clear hb q0_0 q0_1 q0_2 q0_3 q0_4 q0_5 q0_6 q0_7 q0_8 q0_9 q0_10 q0_11
 go_wp2_with fail
 refine (S0.out _ (I0.out.grown (grown_of_below' BU0.out))).mono ?_
 rintro e w1 ⟨rfl,hI,hk⟩
 have I1:Hid (IsRamK w1 K rb has F (mset M A0 8 Y0) (m+2)):=hI
 have C1:Hid (w1.heap[g]? =some (.cells cur 131 (0,0))):=(hk.block g KG.out).trans ((BU0.out.block g (Array.getElem?_eq_some_iff.1 C0.out).1).trans C0.out)
 have T1:Hid (Tab w1):=(T0.out.keep BU0.out).kept hk KZ.out
 have N1:Hid (Kept K w w1):=Kept.trans (kept_of_below BU0.out I0.out.dom) hk
 have q1_0:w1.cell? ⟨g,12,none⟩=some (.int .u64 A1):=(Go.Joins.cell_of_block C1.out 12).trans (CX.out 12 _ rfl)
 have q1_1:w1.cell? ⟨g,13,none⟩=some (.int .u64 X1):=(Go.Joins.cell_of_block C1.out 13).trans (CX.out 13 _ rfl)
 have q1_2:w1.cell? ⟨g,14,none⟩=some (.bool y10):=(Go.Joins.cell_of_block C1.out 14).trans (CX.out 14 _ rfl)
 have q1_3:w1.cell? ⟨g,15,none⟩=some (.bool y11):=(Go.Joins.cell_of_block C1.out 15).trans (CX.out 15 _ rfl)
 have q1_4:w1.cell? ⟨g,16,none⟩=some (.bool y12):=(Go.Joins.cell_of_block C1.out 16).trans (CX.out 16 _ rfl)
 have q1_5:w1.cell? ⟨g,17,none⟩=some (.bool y13):=(Go.Joins.cell_of_block C1.out 17).trans (CX.out 17 _ rfl)
 have q1_6:w1.cell? ⟨g,18,none⟩=some (.bool y14):=(Go.Joins.cell_of_block C1.out 18).trans (CX.out 18 _ rfl)
 have q1_7:w1.cell? ⟨g,19,none⟩=some (.bool y15):=(Go.Joins.cell_of_block C1.out 19).trans (CX.out 19 _ rfl)
 have q1_8:w1.cell? ⟨g,20,none⟩=some (.bool y16):=(Go.Joins.cell_of_block C1.out 20).trans (CX.out 20 _ rfl)
 have q1_9:w1.cell? ⟨g,21,none⟩=some (.bool y17):=(Go.Joins.cell_of_block C1.out 21).trans (CX.out 21 _ rfl)
 have q1_10:w1.cell? ⟨g,22,none⟩=some (.int .i64 f1):=(Go.Joins.cell_of_block C1.out 22).trans (CX.out 22 _ rfl)
 have q1_11:w1.cell? ⟨g,23,none⟩=some (.int .i64 3):=(Go.Joins.cell_of_block C1.out 23).trans (CX.out 23 _ rfl)
 have gz1:g<w1.heap.size:=(Array.getElem?_eq_some_iff.1 C1.out).1
 clear hI hk us0_0 us0_1 BU0 I0 C0 S0
 go_wp2_with fail
 rw [rounds_succ]
 go_wp2_with fail
 refine (P.out _ (T1.out.keep (Go.Joins.below_alloc2 _ _ _))).mono ?_
 rintro e u1 ⟨rfl,hb⟩
 have BU1:Hid (Below w1.heap.size w1 u1):=below_then (Go.Joins.below_alloc2 _ _ _) hb
 have us1_0:u1.cell? ⟨w1.heap.size,0,none⟩=some (.int .u64 A1):=cell_next hb (sz2a w1 _ _) (Go.Joins.cell_of_block (own2a w1 _ _) 0)
 have us1_1:u1.cell? ⟨w1.heap.size,1,none⟩=some (.int .u64 X1):=cell_next hb (sz2a w1 _ _) (Go.Joins.cell_of_block (own2a w1 _ _) 1)
 clear hb q1_0 q1_1 q1_2 q1_3 q1_4 q1_5 q1_6 q1_7 q1_8 q1_9 q1_10 q1_11
 go_wp2_with fail
 refine (S1.out _ (I1.out.grown (grown_of_below' BU1.out))).mono ?_
 rintro e w2 ⟨rfl,hI,hk⟩
 have I2:Hid (IsRamK w2 K rb has F (mset (mset M A0 8 Y0) A1 8 Y1) (m+4)):=hI
 have C2:Hid (w2.heap[g]? =some (.cells cur 131 (0,0))):=(hk.block g KG.out).trans ((BU1.out.block g (Array.getElem?_eq_some_iff.1 C1.out).1).trans C1.out)
 have T2:Hid (Tab w2):=(T1.out.keep BU1.out).kept hk KZ.out
 have N2:Hid (Kept K w w2):=(N1.out.trans (kept_of_below BU1.out I1.out.dom)).trans hk
 have q2_0:w2.cell? ⟨g,24,none⟩=some (.int .u64 A2):=(Go.Joins.cell_of_block C2.out 24).trans (CX.out 24 _ rfl)
 have q2_1:w2.cell? ⟨g,25,none⟩=some (.int .u64 X2):=(Go.Joins.cell_of_block C2.out 25).trans (CX.out 25 _ rfl)
 have q2_2:w2.cell? ⟨g,26,none⟩=some (.bool y20):=(Go.Joins.cell_of_block C2.out 26).trans (CX.out 26 _ rfl)
 have q2_3:w2.cell? ⟨g,27,none⟩=some (.bool y21):=(Go.Joins.cell_of_block C2.out 27).trans (CX.out 27 _ rfl)
 have q2_4:w2.cell? ⟨g,28,none⟩=some (.bool y22):=(Go.Joins.cell_of_block C2.out 28).trans (CX.out 28 _ rfl)
 have q2_5:w2.cell? ⟨g,29,none⟩=some (.bool y23):=(Go.Joins.cell_of_block C2.out 29).trans (CX.out 29 _ rfl)
 have q2_6:w2.cell? ⟨g,30,none⟩=some (.bool y24):=(Go.Joins.cell_of_block C2.out 30).trans (CX.out 30 _ rfl)
 have q2_7:w2.cell? ⟨g,31,none⟩=some (.bool true):=(Go.Joins.cell_of_block C2.out 31).trans (CX.out 31 _ rfl)
 have q2_8:w2.cell? ⟨g,32,none⟩=some (.bool y26):=(Go.Joins.cell_of_block C2.out 32).trans (CX.out 32 _ rfl)
 have q2_9:w2.cell? ⟨g,33,none⟩=some (.bool y27):=(Go.Joins.cell_of_block C2.out 33).trans (CX.out 33 _ rfl)
 have q2_10:w2.cell? ⟨g,34,none⟩=some (.int .i64 f2):=(Go.Joins.cell_of_block C2.out 34).trans (CX.out 34 _ rfl)
 have q2_11:w2.cell? ⟨g,35,none⟩=some (.int .i64 2):=(Go.Joins.cell_of_block C2.out 35).trans (CX.out 35 _ rfl)
 have gz2:g<w2.heap.size:=(Array.getElem?_eq_some_iff.1 C2.out).1
 clear hI hk us1_0 us1_1 BU1 I1 C1 S1
 go_wp2_with fail
 rw [rounds_succ]
 go_wp2_with fail
 refine (P'.out _ (T2.out.keep (Go.Joins.below_alloc2 _ _ _))).mono ?_
 rintro e u2 ⟨rfl,hb⟩
 have BU2:Hid (Below w2.heap.size w2 u2):=below_then (Go.Joins.below_alloc2 _ _ _) hb
 have us2_0:u2.cell? ⟨w2.heap.size,0,none⟩=some (.int .u64 A2):=cell_next hb (sz2a w2 _ _) (Go.Joins.cell_of_block (own2a w2 _ _) 0)
 have us2_1:u2.cell? ⟨w2.heap.size,1,none⟩=some (.int .u64 X2):=cell_next hb (sz2a w2 _ _) (Go.Joins.cell_of_block (own2a w2 _ _) 1)
 clear hb q2_0 q2_1 q2_2 q2_3 q2_4 q2_5 q2_6 q2_7 q2_8 q2_9 q2_10 q2_11
 go_wp2_with fail
 refine (S2.out _ (I2.out.grown (grown_of_below' BU2.out))).mono ?_
 rintro e w3 ⟨rfl,hI,hk⟩
 have I3:Hid (IsRamK w3 K rb has F (mset (mset (mset M A0 8 Y0) A1 8 Y1) A2 8 Y2) (m+6)):=hI
 have C3:Hid (w3.heap[g]? =some (.cells cur 131 (0,0))):=(hk.block g KG.out).trans ((BU2.out.block g (Array.getElem?_eq_some_iff.1 C2.out).1).trans C2.out)
 have T3:Hid (Tab w3):=(T2.out.keep BU2.out).kept hk KZ.out
 have N3:Hid (Kept K w w3):=(N2.out.trans (kept_of_below BU2.out I2.out.dom)).trans hk
 clear hI hk us2_0 us2_1 BU2 I2 C2 S2
 go_wp2_with fail
 rw [rounds_succ]
 go_wp2_with fail
 go_end0
 exact ⟨rfl,I3.out,N3.out,T3.out⟩
set_option maxHeartbeats 2000000 in
theorem mark4r {K:Nat->Prop} {rb m:Nat} {has:Int->Bool} {F:Int} {M:Int->Int} (hm:m+100<maxLen) (A0 X0 f0:Int) (y00 y01 y02 y03 y04 y05 y06 y07:Bool) (A1 X1 f1:Int) (y10 y11 y12 y13 y14 y15 y16 y17:Bool) (A2 X2 f2:Int) (y20 y21 y22 y23 y24 y26 y27:Bool) (A3 X3 f3:Int) (y30 y31 y32 y33 y34 y35 y36 y37:Bool) (Y0 Y1 Y2 Y3:Int) (a0:0<=A0) (b0:A0<18446744073709551616) (k0:chkG has A0 8=0) (o0:bits .or .u64 X0 32=Y0) (c0:0<=Y0) (d0:Y0<18446744073709551616) (a1:0<=A1) (b1:A1<18446744073709551616) (k1:chkG has A1 8=0) (o1:bits .or .u64 X1 32=Y1) (c1:0<=Y1) (d1:Y1<18446744073709551616) (a2:0<=A2) (b2:A2<18446744073709551616) (k2:chkG has A2 8=0) (o2:bits .or .u64 X2 32=Y2) (c2:0<=Y2) (d2:Y2<18446744073709551616) (a3:0<=A3) (b3:A3<18446744073709551616) (k3:chkG has A3 8=0) (o3:bits .or .u64 X3 32=Y3) (c3:0<=Y3) (d3:Y3<18446744073709551616)
 (base:Nat) (v:Value) (w:World) (h:Way w base v 4 ((((([]:List Value)++((zW8a A0 X0 y00 y01 y02 y03 y04 y05 y06 y07 f0 4):List Value))++((zW8a A1 X1 y10 y11 y12 y13 y14 y15 y16 y17 f1 3):List Value))++((zW8a A2 X2 y20 y21 y22 y23 y24 false y26 y27 f2 2):List Value))++((zW8a A3 X3 y30 y31 y32 y33 y34 y35 y36 y37 f3 1):List Value))) (hK: ∀ j,base<=j->j<w.heap.size->K j) (k0':K 0) (ht:Tab w) (hI:IsRamK w K rb has F M m) :
 Calls Tryd.prog 54 #[.pointer (some ⟨rb,0,none⟩),v,.bool false] w fun e w'=>e=.returned (.tuple #[])/\IsRamK w' K rb has F (mset (mset (mset (mset M A0 8 Y0) A1 8 Y1) A2 8 Y2) A3 8 Y3) (m+8)/\Kept K w w'/\Tab w':=by
 obtain ⟨⟨hlen,hrow⟩,g,cap,rfl,hg1,hg2⟩:=h
 obtain ⟨cur,hcur,hcx⟩:=way_block hrow hg2
 have KG:Hid (K g):=hK g hg1 hg2
 have KZ:Hid (K 0):=k0'
 have C0:Hid (w.heap[g]? =some (.cells cur 131 (0,0))):=hcur
 have CX:Hid (∀ (j:Nat) (x:Value),((((([]:List Value)++((zW8a A0 X0 y00 y01 y02 y03 y04 y05 y06 y07 f0 4):List Value))++((zW8a A1 X1 y10 y11 y12 y13 y14 y15 y16 y17 f1 3):List Value))++((zW8a A2 X2 y20 y21 y22 y23 y24 false y26 y27 f2 2):List Value))++((zW8a A3 X3 y30 y31 y32 y33 y34 y35 y36 y37 f3 1):List Value))[j]? =some x->cur[j]? =some x):=hcx
 have T0:Hid (Tab w):=ht
 have I0:Hid (IsRamK w K rb has F M m):=hI
 have P:Hid (∀ w:World,Tab w->Calls Tryd.prog 69 #[.agg (zW8b false false false true false false false false 0)] w fun e w'=>e=.returned (.tuple #[.int .u64 32,.int .i64 0])/\Below w.heap.size w w'):=fun w ht=>pack_ok false false false true false false false false 0 (by omega) (by omega) w ht
 have P':Hid (∀ w:World,Tab w->Calls Tryd.prog 69 #[.agg (zW8b false false false true true false false false 0)] w fun e w'=>e=.returned (.tuple #[.int .u64 96,.int .i64 0])/\Below w.heap.size w w'):=fun w ht=>pack_ok false false false true true false false false 0 (by omega) (by omega) w ht
 have S0:Hid (∀ w:World,IsRamK w K rb has F M (m+0)->Calls Tryd.prog 70 (zW8c (.pointer (some ⟨rb,0,none⟩)) A0 8 Y0) w fun e w'=>e=.returned (.int .i64 0)/\IsRamK w' K rb has F (mset M A0 8 Y0) (m+2)/\Kept K w w'):=fun w h=>store_K h (by omega) A0 8 Y0 a0 b0 k0 c0 d0
 have S1:Hid (∀ w:World,IsRamK w K rb has F (mset M A0 8 Y0) (m+2)->Calls Tryd.prog 70 (zW8c (.pointer (some ⟨rb,0,none⟩)) A1 8 Y1) w fun e w'=>e=.returned (.int .i64 0)/\IsRamK w' K rb has F (mset (mset M A0 8 Y0) A1 8 Y1) (m+4)/\Kept K w w'):=fun w h=>store_K h (by omega) A1 8 Y1 a1 b1 k1 c1 d1
 have S2:Hid (∀ w:World,IsRamK w K rb has F (mset (mset M A0 8 Y0) A1 8 Y1) (m+4)->Calls Tryd.prog 70 (zW8c (.pointer (some ⟨rb,0,none⟩)) A2 8 Y2) w fun e w'=>e=.returned (.int .i64 0)/\IsRamK w' K rb has F (mset (mset (mset M A0 8 Y0) A1 8 Y1) A2 8 Y2) (m+6)/\Kept K w w'):=fun w h=>store_K h (by omega) A2 8 Y2 a2 b2 k2 c2 d2
 have S3:Hid (∀ w:World,IsRamK w K rb has F (mset (mset (mset M A0 8 Y0) A1 8 Y1) A2 8 Y2) (m+6)->Calls Tryd.prog 70 (zW8c (.pointer (some ⟨rb,0,none⟩)) A3 8 Y3) w fun e w'=>e=.returned (.int .i64 0)/\IsRamK w' K rb has F (mset (mset (mset (mset M A0 8 Y0) A1 8 Y1) A2 8 Y2) A3 8 Y3) (m+8)/\Kept K w w'):=fun w h=>store_K h (by omega) A3 8 Y3 a3 b3 k3 c3 d3
 have q0_0:w.cell? ⟨g,0,none⟩=some (.int .u64 A0):=(Go.Joins.cell_of_block hcur 0).trans (hcx 0 _ rfl)
 have q0_1:w.cell? ⟨g,1,none⟩=some (.int .u64 X0):=(Go.Joins.cell_of_block hcur 1).trans (hcx 1 _ rfl)
 have q0_2:w.cell? ⟨g,2,none⟩=some (.bool y00):=(Go.Joins.cell_of_block hcur 2).trans (hcx 2 _ rfl)
 have q0_3:w.cell? ⟨g,3,none⟩=some (.bool y01):=(Go.Joins.cell_of_block hcur 3).trans (hcx 3 _ rfl)
 have q0_4:w.cell? ⟨g,4,none⟩=some (.bool y02):=(Go.Joins.cell_of_block hcur 4).trans (hcx 4 _ rfl)
 have q0_5:w.cell? ⟨g,5,none⟩=some (.bool y03):=(Go.Joins.cell_of_block hcur 5).trans (hcx 5 _ rfl)
 have q0_6:w.cell? ⟨g,6,none⟩=some (.bool y04):=(Go.Joins.cell_of_block hcur 6).trans (hcx 6 _ rfl)
 have q0_7:w.cell? ⟨g,7,none⟩=some (.bool y05):=(Go.Joins.cell_of_block hcur 7).trans (hcx 7 _ rfl)
 have q0_8:w.cell? ⟨g,8,none⟩=some (.bool y06):=(Go.Joins.cell_of_block hcur 8).trans (hcx 8 _ rfl)
 have q0_9:w.cell? ⟨g,9,none⟩=some (.bool y07):=(Go.Joins.cell_of_block hcur 9).trans (hcx 9 _ rfl)
 have q0_10:w.cell? ⟨g,10,none⟩=some (.int .i64 f0):=(Go.Joins.cell_of_block hcur 10).trans (hcx 10 _ rfl)
 have q0_11:w.cell? ⟨g,11,none⟩=some (.int .i64 4):=(Go.Joins.cell_of_block hcur 11).trans (hcx 11 _ rfl)
 clear hcur hcx hrow hlen hK k0' ht hI a0 b0 k0 c0 d0 a1 b1 k1 c1 d1 a2 b2 k2 c2 d2 a3 b3 k3 c3 d3
 go_enter Tryd.func54,Tryd.ntmps54
 go_wp2_with fail
 refine wp_loop_rounds 5 ?_
 rw [rounds_succ]
 go_wp2_with fail
 refine (P.out _ (T0.out.keep (Go.Joins.below_alloc2 _ _ _))).mono ?_
 rintro e u0 ⟨rfl,hb⟩
 have BU0:Hid (Below w.heap.size w u0):=below_then (Go.Joins.below_alloc2 _ _ _) hb
 have us0_0:u0.cell? ⟨w.heap.size,0,none⟩=some (.int .u64 A0):=cell_next hb (sz2a w _ _) (Go.Joins.cell_of_block (own2a w _ _) 0)
 have us0_1:u0.cell? ⟨w.heap.size,1,none⟩=some (.int .u64 X0):=cell_next hb (sz2a w _ _) (Go.Joins.cell_of_block (own2a w _ _) 1)
 clear hb q0_0 q0_1 q0_2 q0_3 q0_4 q0_5 q0_6 q0_7 q0_8 q0_9 q0_10 q0_11
 go_wp2_with fail
 refine (S0.out _ (I0.out.grown (grown_of_below' BU0.out))).mono ?_
 rintro e w1 ⟨rfl,hI,hk⟩
 have I1:Hid (IsRamK w1 K rb has F (mset M A0 8 Y0) (m+2)):=hI
 have C1:Hid (w1.heap[g]? =some (.cells cur 131 (0,0))):=(hk.block g KG.out).trans ((BU0.out.block g (Array.getElem?_eq_some_iff.1 C0.out).1).trans C0.out)
 have T1:Hid (Tab w1):=(T0.out.keep BU0.out).kept hk KZ.out
 have N1:Hid (Kept K w w1):=Kept.trans (kept_of_below BU0.out I0.out.dom) hk
 have q1_0:w1.cell? ⟨g,12,none⟩=some (.int .u64 A1):=(Go.Joins.cell_of_block C1.out 12).trans (CX.out 12 _ rfl)
 have q1_1:w1.cell? ⟨g,13,none⟩=some (.int .u64 X1):=(Go.Joins.cell_of_block C1.out 13).trans (CX.out 13 _ rfl)
 have q1_2:w1.cell? ⟨g,14,none⟩=some (.bool y10):=(Go.Joins.cell_of_block C1.out 14).trans (CX.out 14 _ rfl)
 have q1_3:w1.cell? ⟨g,15,none⟩=some (.bool y11):=(Go.Joins.cell_of_block C1.out 15).trans (CX.out 15 _ rfl)
 have q1_4:w1.cell? ⟨g,16,none⟩=some (.bool y12):=(Go.Joins.cell_of_block C1.out 16).trans (CX.out 16 _ rfl)
 have q1_5:w1.cell? ⟨g,17,none⟩=some (.bool y13):=(Go.Joins.cell_of_block C1.out 17).trans (CX.out 17 _ rfl)
 have q1_6:w1.cell? ⟨g,18,none⟩=some (.bool y14):=(Go.Joins.cell_of_block C1.out 18).trans (CX.out 18 _ rfl)
 have q1_7:w1.cell? ⟨g,19,none⟩=some (.bool y15):=(Go.Joins.cell_of_block C1.out 19).trans (CX.out 19 _ rfl)
 have q1_8:w1.cell? ⟨g,20,none⟩=some (.bool y16):=(Go.Joins.cell_of_block C1.out 20).trans (CX.out 20 _ rfl)
 have q1_9:w1.cell? ⟨g,21,none⟩=some (.bool y17):=(Go.Joins.cell_of_block C1.out 21).trans (CX.out 21 _ rfl)
 have q1_10:w1.cell? ⟨g,22,none⟩=some (.int .i64 f1):=(Go.Joins.cell_of_block C1.out 22).trans (CX.out 22 _ rfl)
 have q1_11:w1.cell? ⟨g,23,none⟩=some (.int .i64 3):=(Go.Joins.cell_of_block C1.out 23).trans (CX.out 23 _ rfl)
 have gz1:g<w1.heap.size:=(Array.getElem?_eq_some_iff.1 C1.out).1
 clear hI hk us0_0 us0_1 BU0 I0 C0 S0
 go_wp2_with fail
 rw [rounds_succ]
 go_wp2_with fail
 refine (P.out _ (T1.out.keep (Go.Joins.below_alloc2 _ _ _))).mono ?_
 rintro e u1 ⟨rfl,hb⟩
 have BU1:Hid (Below w1.heap.size w1 u1):=below_then (Go.Joins.below_alloc2 _ _ _) hb
 have us1_0:u1.cell? ⟨w1.heap.size,0,none⟩=some (.int .u64 A1):=cell_next hb (sz2a w1 _ _) (Go.Joins.cell_of_block (own2a w1 _ _) 0)
 have us1_1:u1.cell? ⟨w1.heap.size,1,none⟩=some (.int .u64 X1):=cell_next hb (sz2a w1 _ _) (Go.Joins.cell_of_block (own2a w1 _ _) 1)
 clear hb q1_0 q1_1 q1_2 q1_3 q1_4 q1_5 q1_6 q1_7 q1_8 q1_9 q1_10 q1_11
 go_wp2_with fail
 refine (S1.out _ (I1.out.grown (grown_of_below' BU1.out))).mono ?_
 rintro e w2 ⟨rfl,hI,hk⟩
 have I2:Hid (IsRamK w2 K rb has F (mset (mset M A0 8 Y0) A1 8 Y1) (m+4)):=hI
 have C2:Hid (w2.heap[g]? =some (.cells cur 131 (0,0))):=(hk.block g KG.out).trans ((BU1.out.block g (Array.getElem?_eq_some_iff.1 C1.out).1).trans C1.out)
 have T2:Hid (Tab w2):=(T1.out.keep BU1.out).kept hk KZ.out
 have N2:Hid (Kept K w w2):=(N1.out.trans (kept_of_below BU1.out I1.out.dom)).trans hk
 have q2_0:w2.cell? ⟨g,24,none⟩=some (.int .u64 A2):=(Go.Joins.cell_of_block C2.out 24).trans (CX.out 24 _ rfl)
 have q2_1:w2.cell? ⟨g,25,none⟩=some (.int .u64 X2):=(Go.Joins.cell_of_block C2.out 25).trans (CX.out 25 _ rfl)
 have q2_2:w2.cell? ⟨g,26,none⟩=some (.bool y20):=(Go.Joins.cell_of_block C2.out 26).trans (CX.out 26 _ rfl)
 have q2_3:w2.cell? ⟨g,27,none⟩=some (.bool y21):=(Go.Joins.cell_of_block C2.out 27).trans (CX.out 27 _ rfl)
 have q2_4:w2.cell? ⟨g,28,none⟩=some (.bool y22):=(Go.Joins.cell_of_block C2.out 28).trans (CX.out 28 _ rfl)
 have q2_5:w2.cell? ⟨g,29,none⟩=some (.bool y23):=(Go.Joins.cell_of_block C2.out 29).trans (CX.out 29 _ rfl)
 have q2_6:w2.cell? ⟨g,30,none⟩=some (.bool y24):=(Go.Joins.cell_of_block C2.out 30).trans (CX.out 30 _ rfl)
 have q2_7:w2.cell? ⟨g,31,none⟩=some (.bool false):=(Go.Joins.cell_of_block C2.out 31).trans (CX.out 31 _ rfl)
 have q2_8:w2.cell? ⟨g,32,none⟩=some (.bool y26):=(Go.Joins.cell_of_block C2.out 32).trans (CX.out 32 _ rfl)
 have q2_9:w2.cell? ⟨g,33,none⟩=some (.bool y27):=(Go.Joins.cell_of_block C2.out 33).trans (CX.out 33 _ rfl)
 have q2_10:w2.cell? ⟨g,34,none⟩=some (.int .i64 f2):=(Go.Joins.cell_of_block C2.out 34).trans (CX.out 34 _ rfl)
 have q2_11:w2.cell? ⟨g,35,none⟩=some (.int .i64 2):=(Go.Joins.cell_of_block C2.out 35).trans (CX.out 35 _ rfl)
 have gz2:g<w2.heap.size:=(Array.getElem?_eq_some_iff.1 C2.out).1
 clear hI hk us1_0 us1_1 BU1 I1 C1 S1
 go_wp2_with fail
 rw [rounds_succ]
 go_wp2_with fail
 refine (P.out _ (T2.out.keep (Go.Joins.below_alloc2 _ _ _))).mono ?_
 rintro e u2 ⟨rfl,hb⟩
 have BU2:Hid (Below w2.heap.size w2 u2):=below_then (Go.Joins.below_alloc2 _ _ _) hb
 have us2_0:u2.cell? ⟨w2.heap.size,0,none⟩=some (.int .u64 A2):=cell_next hb (sz2a w2 _ _) (Go.Joins.cell_of_block (own2a w2 _ _) 0)
 have us2_1:u2.cell? ⟨w2.heap.size,1,none⟩=some (.int .u64 X2):=cell_next hb (sz2a w2 _ _) (Go.Joins.cell_of_block (own2a w2 _ _) 1)
 clear hb q2_0 q2_1 q2_2 q2_3 q2_4 q2_5 q2_6 q2_7 q2_8 q2_9 q2_10 q2_11
 go_wp2_with fail
 refine (S2.out _ (I2.out.grown (grown_of_below' BU2.out))).mono ?_
 rintro e w3 ⟨rfl,hI,hk⟩
 have I3:Hid (IsRamK w3 K rb has F (mset (mset (mset M A0 8 Y0) A1 8 Y1) A2 8 Y2) (m+6)):=hI
 have C3:Hid (w3.heap[g]? =some (.cells cur 131 (0,0))):=(hk.block g KG.out).trans ((BU2.out.block g (Array.getElem?_eq_some_iff.1 C2.out).1).trans C2.out)
 have T3:Hid (Tab w3):=(T2.out.keep BU2.out).kept hk KZ.out
 have N3:Hid (Kept K w w3):=(N2.out.trans (kept_of_below BU2.out I2.out.dom)).trans hk
 have q3_0:w3.cell? ⟨g,36,none⟩=some (.int .u64 A3):=(Go.Joins.cell_of_block C3.out 36).trans (CX.out 36 _ rfl)
 have q3_1:w3.cell? ⟨g,37,none⟩=some (.int .u64 X3):=(Go.Joins.cell_of_block C3.out 37).trans (CX.out 37 _ rfl)
 have q3_2:w3.cell? ⟨g,38,none⟩=some (.bool y30):=(Go.Joins.cell_of_block C3.out 38).trans (CX.out 38 _ rfl)
 have q3_3:w3.cell? ⟨g,39,none⟩=some (.bool y31):=(Go.Joins.cell_of_block C3.out 39).trans (CX.out 39 _ rfl)
 have q3_4:w3.cell? ⟨g,40,none⟩=some (.bool y32):=(Go.Joins.cell_of_block C3.out 40).trans (CX.out 40 _ rfl)
 have q3_5:w3.cell? ⟨g,41,none⟩=some (.bool y33):=(Go.Joins.cell_of_block C3.out 41).trans (CX.out 41 _ rfl)
 have q3_6:w3.cell? ⟨g,42,none⟩=some (.bool y34):=(Go.Joins.cell_of_block C3.out 42).trans (CX.out 42 _ rfl)
 have q3_7:w3.cell? ⟨g,43,none⟩=some (.bool y35):=(Go.Joins.cell_of_block C3.out 43).trans (CX.out 43 _ rfl)
 have q3_8:w3.cell? ⟨g,44,none⟩=some (.bool y36):=(Go.Joins.cell_of_block C3.out 44).trans (CX.out 44 _ rfl)
 have q3_9:w3.cell? ⟨g,45,none⟩=some (.bool y37):=(Go.Joins.cell_of_block C3.out 45).trans (CX.out 45 _ rfl)
 have q3_10:w3.cell? ⟨g,46,none⟩=some (.int .i64 f3):=(Go.Joins.cell_of_block C3.out 46).trans (CX.out 46 _ rfl)
 have q3_11:w3.cell? ⟨g,47,none⟩=some (.int .i64 1):=(Go.Joins.cell_of_block C3.out 47).trans (CX.out 47 _ rfl)
 have gz3:g<w3.heap.size:=(Array.getElem?_eq_some_iff.1 C3.out).1
 clear hI hk us2_0 us2_1 BU2 I2 C2 S2
 go_wp2_with fail
 rw [rounds_succ]
 go_wp2_with fail
 refine (P.out _ (T3.out.keep (Go.Joins.below_alloc2 _ _ _))).mono ?_
 rintro e u3 ⟨rfl,hb⟩
 have BU3:Hid (Below w3.heap.size w3 u3):=below_then (Go.Joins.below_alloc2 _ _ _) hb
 have us3_0:u3.cell? ⟨w3.heap.size,0,none⟩=some (.int .u64 A3):=cell_next hb (sz2a w3 _ _) (Go.Joins.cell_of_block (own2a w3 _ _) 0)
 have us3_1:u3.cell? ⟨w3.heap.size,1,none⟩=some (.int .u64 X3):=cell_next hb (sz2a w3 _ _) (Go.Joins.cell_of_block (own2a w3 _ _) 1)
 clear hb q3_0 q3_1 q3_2 q3_3 q3_4 q3_5 q3_6 q3_7 q3_8 q3_9 q3_10 q3_11
 go_wp2_with fail
 refine (S3.out _ (I3.out.grown (grown_of_below' BU3.out))).mono ?_
 rintro e w4 ⟨rfl,hI,hk⟩
 have I4:Hid (IsRamK w4 K rb has F (mset (mset (mset (mset M A0 8 Y0) A1 8 Y1) A2 8 Y2) A3 8 Y3) (m+8)):=hI
 have C4:Hid (w4.heap[g]? =some (.cells cur 131 (0,0))):=(hk.block g KG.out).trans ((BU3.out.block g (Array.getElem?_eq_some_iff.1 C3.out).1).trans C3.out)
 have T4:Hid (Tab w4):=(T3.out.keep BU3.out).kept hk KZ.out
 have N4:Hid (Kept K w w4):=(N3.out.trans (kept_of_below BU3.out I3.out.dom)).trans hk
 clear hI hk us3_0 us3_1 BU3 I3 C3 S3
 go_wp2_with fail
 rw [rounds_succ]
 go_wp2_with fail
 go_end0
 exact ⟨rfl,I4.out,N4.out,T4.out⟩
set_option maxHeartbeats 2000000 in
theorem mark4w {K:Nat->Prop} {rb m:Nat} {has:Int->Bool} {F:Int} {M:Int->Int} (hm:m+100<maxLen) (A0 X0 f0:Int) (y00 y01 y02 y03 y04 y05 y06 y07:Bool) (A1 X1 f1:Int) (y10 y11 y12 y13 y14 y15 y16 y17:Bool) (A2 X2 f2:Int) (y20 y21 y22 y23 y24 y26 y27:Bool) (A3 X3 f3:Int) (y30 y31 y32 y33 y34 y35 y36 y37:Bool) (Y0 Y1 Y2 Y3:Int) (a0:0<=A0) (b0:A0<18446744073709551616) (k0:chkG has A0 8=0) (o0:bits .or .u64 X0 32=Y0) (c0:0<=Y0) (d0:Y0<18446744073709551616) (a1:0<=A1) (b1:A1<18446744073709551616) (k1:chkG has A1 8=0) (o1:bits .or .u64 X1 32=Y1) (c1:0<=Y1) (d1:Y1<18446744073709551616) (a2:0<=A2) (b2:A2<18446744073709551616) (k2:chkG has A2 8=0) (o2:bits .or .u64 X2 32=Y2) (c2:0<=Y2) (d2:Y2<18446744073709551616) (a3:0<=A3) (b3:A3<18446744073709551616) (k3:chkG has A3 8=0) (o3:bits .or .u64 X3 96=Y3) (c3:0<=Y3) (d3:Y3<18446744073709551616)
 (base:Nat) (v:Value) (w:World) (h:Way w base v 4 ((((([]:List Value)++((zW8a A0 X0 y00 y01 y02 y03 y04 y05 y06 y07 f0 4):List Value))++((zW8a A1 X1 y10 y11 y12 y13 y14 y15 y16 y17 f1 3):List Value))++((zW8a A2 X2 y20 y21 y22 y23 y24 false y26 y27 f2 2):List Value))++((zW8a A3 X3 y30 y31 y32 y33 y34 y35 y36 y37 f3 1):List Value))) (hK: ∀ j,base<=j->j<w.heap.size->K j) (k0':K 0) (ht:Tab w) (hI:IsRamK w K rb has F M m) :
 Calls Tryd.prog 54 #[.pointer (some ⟨rb,0,none⟩),v,.bool true] w fun e w'=>e=.returned (.tuple #[])/\IsRamK w' K rb has F (mset (mset (mset (mset M A0 8 Y0) A1 8 Y1) A2 8 Y2) A3 8 Y3) (m+8)/\Kept K w w'/\Tab w':=by
 obtain ⟨⟨hlen,hrow⟩,g,cap,rfl,hg1,hg2⟩:=h
 obtain ⟨cur,hcur,hcx⟩:=way_block hrow hg2
 have KG:Hid (K g):=hK g hg1 hg2
 have KZ:Hid (K 0):=k0'
 have C0:Hid (w.heap[g]? =some (.cells cur 131 (0,0))):=hcur
 have CX:Hid (∀ (j:Nat) (x:Value),((((([]:List Value)++((zW8a A0 X0 y00 y01 y02 y03 y04 y05 y06 y07 f0 4):List Value))++((zW8a A1 X1 y10 y11 y12 y13 y14 y15 y16 y17 f1 3):List Value))++((zW8a A2 X2 y20 y21 y22 y23 y24 false y26 y27 f2 2):List Value))++((zW8a A3 X3 y30 y31 y32 y33 y34 y35 y36 y37 f3 1):List Value))[j]? =some x->cur[j]? =some x):=hcx
 have T0:Hid (Tab w):=ht
 have I0:Hid (IsRamK w K rb has F M m):=hI
 have P:Hid (∀ w:World,Tab w->Calls Tryd.prog 69 #[.agg (zW8b false false false true false false false false 0)] w fun e w'=>e=.returned (.tuple #[.int .u64 32,.int .i64 0])/\Below w.heap.size w w'):=fun w ht=>pack_ok false false false true false false false false 0 (by omega) (by omega) w ht
 have P':Hid (∀ w:World,Tab w->Calls Tryd.prog 69 #[.agg (zW8b false false false true true false false false 0)] w fun e w'=>e=.returned (.tuple #[.int .u64 96,.int .i64 0])/\Below w.heap.size w w'):=fun w ht=>pack_ok false false false true true false false false 0 (by omega) (by omega) w ht
 have S0:Hid (∀ w:World,IsRamK w K rb has F M (m+0)->Calls Tryd.prog 70 (zW8c (.pointer (some ⟨rb,0,none⟩)) A0 8 Y0) w fun e w'=>e=.returned (.int .i64 0)/\IsRamK w' K rb has F (mset M A0 8 Y0) (m+2)/\Kept K w w'):=fun w h=>store_K h (by omega) A0 8 Y0 a0 b0 k0 c0 d0
 have S1:Hid (∀ w:World,IsRamK w K rb has F (mset M A0 8 Y0) (m+2)->Calls Tryd.prog 70 (zW8c (.pointer (some ⟨rb,0,none⟩)) A1 8 Y1) w fun e w'=>e=.returned (.int .i64 0)/\IsRamK w' K rb has F (mset (mset M A0 8 Y0) A1 8 Y1) (m+4)/\Kept K w w'):=fun w h=>store_K h (by omega) A1 8 Y1 a1 b1 k1 c1 d1
 have S2:Hid (∀ w:World,IsRamK w K rb has F (mset (mset M A0 8 Y0) A1 8 Y1) (m+4)->Calls Tryd.prog 70 (zW8c (.pointer (some ⟨rb,0,none⟩)) A2 8 Y2) w fun e w'=>e=.returned (.int .i64 0)/\IsRamK w' K rb has F (mset (mset (mset M A0 8 Y0) A1 8 Y1) A2 8 Y2) (m+6)/\Kept K w w'):=fun w h=>store_K h (by omega) A2 8 Y2 a2 b2 k2 c2 d2
 have S3:Hid (∀ w:World,IsRamK w K rb has F (mset (mset (mset M A0 8 Y0) A1 8 Y1) A2 8 Y2) (m+6)->Calls Tryd.prog 70 (zW8c (.pointer (some ⟨rb,0,none⟩)) A3 8 Y3) w fun e w'=>e=.returned (.int .i64 0)/\IsRamK w' K rb has F (mset (mset (mset (mset M A0 8 Y0) A1 8 Y1) A2 8 Y2) A3 8 Y3) (m+8)/\Kept K w w'):=fun w h=>store_K h (by omega) A3 8 Y3 a3 b3 k3 c3 d3
 have q0_0:w.cell? ⟨g,0,none⟩=some (.int .u64 A0):=(Go.Joins.cell_of_block hcur 0).trans (hcx 0 _ rfl)
 have q0_1:w.cell? ⟨g,1,none⟩=some (.int .u64 X0):=(Go.Joins.cell_of_block hcur 1).trans (hcx 1 _ rfl)
 have q0_2:w.cell? ⟨g,2,none⟩=some (.bool y00):=(Go.Joins.cell_of_block hcur 2).trans (hcx 2 _ rfl)
 have q0_3:w.cell? ⟨g,3,none⟩=some (.bool y01):=(Go.Joins.cell_of_block hcur 3).trans (hcx 3 _ rfl)
 have q0_4:w.cell? ⟨g,4,none⟩=some (.bool y02):=(Go.Joins.cell_of_block hcur 4).trans (hcx 4 _ rfl)
 have q0_5:w.cell? ⟨g,5,none⟩=some (.bool y03):=(Go.Joins.cell_of_block hcur 5).trans (hcx 5 _ rfl)
 have q0_6:w.cell? ⟨g,6,none⟩=some (.bool y04):=(Go.Joins.cell_of_block hcur 6).trans (hcx 6 _ rfl)
 have q0_7:w.cell? ⟨g,7,none⟩=some (.bool y05):=(Go.Joins.cell_of_block hcur 7).trans (hcx 7 _ rfl)
 have q0_8:w.cell? ⟨g,8,none⟩=some (.bool y06):=(Go.Joins.cell_of_block hcur 8).trans (hcx 8 _ rfl)
 have q0_9:w.cell? ⟨g,9,none⟩=some (.bool y07):=(Go.Joins.cell_of_block hcur 9).trans (hcx 9 _ rfl)
 have q0_10:w.cell? ⟨g,10,none⟩=some (.int .i64 f0):=(Go.Joins.cell_of_block hcur 10).trans (hcx 10 _ rfl)
 have q0_11:w.cell? ⟨g,11,none⟩=some (.int .i64 4):=(Go.Joins.cell_of_block hcur 11).trans (hcx 11 _ rfl)
 clear hcur hcx hrow hlen hK k0' ht hI a0 b0 k0 c0 d0 a1 b1 k1 c1 d1 a2 b2 k2 c2 d2 a3 b3 k3 c3 d3
 go_enter Tryd.func54,Tryd.ntmps54
 go_wp2_with fail
 refine wp_loop_rounds 5 ?_
 rw [rounds_succ]
 go_wp2_with fail
 refine (P.out _ (T0.out.keep (Go.Joins.below_alloc2 _ _ _))).mono ?_
 rintro e u0 ⟨rfl,hb⟩
 have BU0:Hid (Below w.heap.size w u0):=below_then (Go.Joins.below_alloc2 _ _ _) hb
 have us0_0:u0.cell? ⟨w.heap.size,0,none⟩=some (.int .u64 A0):=cell_next hb (sz2a w _ _) (Go.Joins.cell_of_block (own2a w _ _) 0)
 have us0_1:u0.cell? ⟨w.heap.size,1,none⟩=some (.int .u64 X0):=cell_next hb (sz2a w _ _) (Go.Joins.cell_of_block (own2a w _ _) 1)
 clear hb q0_0 q0_1 q0_2 q0_3 q0_4 q0_5 q0_6 q0_7 q0_8 q0_9 q0_10 q0_11
 go_wp2_with fail
 refine (S0.out _ (I0.out.grown (grown_of_below' BU0.out))).mono ?_
 rintro e w1 ⟨rfl,hI,hk⟩
 have I1:Hid (IsRamK w1 K rb has F (mset M A0 8 Y0) (m+2)):=hI
 have C1:Hid (w1.heap[g]? =some (.cells cur 131 (0,0))):=(hk.block g KG.out).trans ((BU0.out.block g (Array.getElem?_eq_some_iff.1 C0.out).1).trans C0.out)
 have T1:Hid (Tab w1):=(T0.out.keep BU0.out).kept hk KZ.out
 have N1:Hid (Kept K w w1):=Kept.trans (kept_of_below BU0.out I0.out.dom) hk
 have q1_0:w1.cell? ⟨g,12,none⟩=some (.int .u64 A1):=(Go.Joins.cell_of_block C1.out 12).trans (CX.out 12 _ rfl)
 have q1_1:w1.cell? ⟨g,13,none⟩=some (.int .u64 X1):=(Go.Joins.cell_of_block C1.out 13).trans (CX.out 13 _ rfl)
 have q1_2:w1.cell? ⟨g,14,none⟩=some (.bool y10):=(Go.Joins.cell_of_block C1.out 14).trans (CX.out 14 _ rfl)
 have q1_3:w1.cell? ⟨g,15,none⟩=some (.bool y11):=(Go.Joins.cell_of_block C1.out 15).trans (CX.out 15 _ rfl)
 have q1_4:w1.cell? ⟨g,16,none⟩=some (.bool y12):=(Go.Joins.cell_of_block C1.out 16).trans (CX.out 16 _ rfl)
 have q1_5:w1.cell? ⟨g,17,none⟩=some (.bool y13):=(Go.Joins.cell_of_block C1.out 17).trans (CX.out 17 _ rfl)
 have q1_6:w1.cell? ⟨g,18,none⟩=some (.bool y14):=(Go.Joins.cell_of_block C1.out 18).trans (CX.out 18 _ rfl)
 have q1_7:w1.cell? ⟨g,19,none⟩=some (.bool y15):=(Go.Joins.cell_of_block C1.out 19).trans (CX.out 19 _ rfl)
 have q1_8:w1.cell? ⟨g,20,none⟩=some (.bool y16):=(Go.Joins.cell_of_block C1.out 20).trans (CX.out 20 _ rfl)
 have q1_9:w1.cell? ⟨g,21,none⟩=some (.bool y17):=(Go.Joins.cell_of_block C1.out 21).trans (CX.out 21 _ rfl)
 have q1_10:w1.cell? ⟨g,22,none⟩=some (.int .i64 f1):=(Go.Joins.cell_of_block C1.out 22).trans (CX.out 22 _ rfl)
 have q1_11:w1.cell? ⟨g,23,none⟩=some (.int .i64 3):=(Go.Joins.cell_of_block C1.out 23).trans (CX.out 23 _ rfl)
 have gz1:g<w1.heap.size:=(Array.getElem?_eq_some_iff.1 C1.out).1
 clear hI hk us0_0 us0_1 BU0 I0 C0 S0
 go_wp2_with fail
 rw [rounds_succ]
 go_wp2_with fail
 refine (P.out _ (T1.out.keep (Go.Joins.below_alloc2 _ _ _))).mono ?_
 rintro e u1 ⟨rfl,hb⟩
 have BU1:Hid (Below w1.heap.size w1 u1):=below_then (Go.Joins.below_alloc2 _ _ _) hb
 have us1_0:u1.cell? ⟨w1.heap.size,0,none⟩=some (.int .u64 A1):=cell_next hb (sz2a w1 _ _) (Go.Joins.cell_of_block (own2a w1 _ _) 0)
 have us1_1:u1.cell? ⟨w1.heap.size,1,none⟩=some (.int .u64 X1):=cell_next hb (sz2a w1 _ _) (Go.Joins.cell_of_block (own2a w1 _ _) 1)
 clear hb q1_0 q1_1 q1_2 q1_3 q1_4 q1_5 q1_6 q1_7 q1_8 q1_9 q1_10 q1_11
 go_wp2_with fail
 refine (S1.out _ (I1.out.grown (grown_of_below' BU1.out))).mono ?_
 rintro e w2 ⟨rfl,hI,hk⟩
 have I2:Hid (IsRamK w2 K rb has F (mset (mset M A0 8 Y0) A1 8 Y1) (m+4)):=hI
 have C2:Hid (w2.heap[g]? =some (.cells cur 131 (0,0))):=(hk.block g KG.out).trans ((BU1.out.block g (Array.getElem?_eq_some_iff.1 C1.out).1).trans C1.out)
 have T2:Hid (Tab w2):=(T1.out.keep BU1.out).kept hk KZ.out
 have N2:Hid (Kept K w w2):=(N1.out.trans (kept_of_below BU1.out I1.out.dom)).trans hk
 have q2_0:w2.cell? ⟨g,24,none⟩=some (.int .u64 A2):=(Go.Joins.cell_of_block C2.out 24).trans (CX.out 24 _ rfl)
 have q2_1:w2.cell? ⟨g,25,none⟩=some (.int .u64 X2):=(Go.Joins.cell_of_block C2.out 25).trans (CX.out 25 _ rfl)
 have q2_2:w2.cell? ⟨g,26,none⟩=some (.bool y20):=(Go.Joins.cell_of_block C2.out 26).trans (CX.out 26 _ rfl)
 have q2_3:w2.cell? ⟨g,27,none⟩=some (.bool y21):=(Go.Joins.cell_of_block C2.out 27).trans (CX.out 27 _ rfl)
 have q2_4:w2.cell? ⟨g,28,none⟩=some (.bool y22):=(Go.Joins.cell_of_block C2.out 28).trans (CX.out 28 _ rfl)
 have q2_5:w2.cell? ⟨g,29,none⟩=some (.bool y23):=(Go.Joins.cell_of_block C2.out 29).trans (CX.out 29 _ rfl)
 have q2_6:w2.cell? ⟨g,30,none⟩=some (.bool y24):=(Go.Joins.cell_of_block C2.out 30).trans (CX.out 30 _ rfl)
 have q2_7:w2.cell? ⟨g,31,none⟩=some (.bool false):=(Go.Joins.cell_of_block C2.out 31).trans (CX.out 31 _ rfl)
 have q2_8:w2.cell? ⟨g,32,none⟩=some (.bool y26):=(Go.Joins.cell_of_block C2.out 32).trans (CX.out 32 _ rfl)
 have q2_9:w2.cell? ⟨g,33,none⟩=some (.bool y27):=(Go.Joins.cell_of_block C2.out 33).trans (CX.out 33 _ rfl)
 have q2_10:w2.cell? ⟨g,34,none⟩=some (.int .i64 f2):=(Go.Joins.cell_of_block C2.out 34).trans (CX.out 34 _ rfl)
 have q2_11:w2.cell? ⟨g,35,none⟩=some (.int .i64 2):=(Go.Joins.cell_of_block C2.out 35).trans (CX.out 35 _ rfl)
 have gz2:g<w2.heap.size:=(Array.getElem?_eq_some_iff.1 C2.out).1
 clear hI hk us1_0 us1_1 BU1 I1 C1 S1
 go_wp2_with fail
 rw [rounds_succ]
 go_wp2_with fail
 refine (P.out _ (T2.out.keep (Go.Joins.below_alloc2 _ _ _))).mono ?_
 rintro e u2 ⟨rfl,hb⟩
 have BU2:Hid (Below w2.heap.size w2 u2):=below_then (Go.Joins.below_alloc2 _ _ _) hb
 have us2_0:u2.cell? ⟨w2.heap.size,0,none⟩=some (.int .u64 A2):=cell_next hb (sz2a w2 _ _) (Go.Joins.cell_of_block (own2a w2 _ _) 0)
 have us2_1:u2.cell? ⟨w2.heap.size,1,none⟩=some (.int .u64 X2):=cell_next hb (sz2a w2 _ _) (Go.Joins.cell_of_block (own2a w2 _ _) 1)
 clear hb q2_0 q2_1 q2_2 q2_3 q2_4 q2_5 q2_6 q2_7 q2_8 q2_9 q2_10 q2_11
 go_wp2_with fail
 refine (S2.out _ (I2.out.grown (grown_of_below' BU2.out))).mono ?_
 rintro e w3 ⟨rfl,hI,hk⟩
 have I3:Hid (IsRamK w3 K rb has F (mset (mset (mset M A0 8 Y0) A1 8 Y1) A2 8 Y2) (m+6)):=hI
 have C3:Hid (w3.heap[g]? =some (.cells cur 131 (0,0))):=(hk.block g KG.out).trans ((BU2.out.block g (Array.getElem?_eq_some_iff.1 C2.out).1).trans C2.out)
 have T3:Hid (Tab w3):=(T2.out.keep BU2.out).kept hk KZ.out
 have N3:Hid (Kept K w w3):=(N2.out.trans (kept_of_below BU2.out I2.out.dom)).trans hk
 have q3_0:w3.cell? ⟨g,36,none⟩=some (.int .u64 A3):=(Go.Joins.cell_of_block C3.out 36).trans (CX.out 36 _ rfl)
 have q3_1:w3.cell? ⟨g,37,none⟩=some (.int .u64 X3):=(Go.Joins.cell_of_block C3.out 37).trans (CX.out 37 _ rfl)
 have q3_2:w3.cell? ⟨g,38,none⟩=some (.bool y30):=(Go.Joins.cell_of_block C3.out 38).trans (CX.out 38 _ rfl)
 have q3_3:w3.cell? ⟨g,39,none⟩=some (.bool y31):=(Go.Joins.cell_of_block C3.out 39).trans (CX.out 39 _ rfl)
 have q3_4:w3.cell? ⟨g,40,none⟩=some (.bool y32):=(Go.Joins.cell_of_block C3.out 40).trans (CX.out 40 _ rfl)
 have q3_5:w3.cell? ⟨g,41,none⟩=some (.bool y33):=(Go.Joins.cell_of_block C3.out 41).trans (CX.out 41 _ rfl)
 have q3_6:w3.cell? ⟨g,42,none⟩=some (.bool y34):=(Go.Joins.cell_of_block C3.out 42).trans (CX.out 42 _ rfl)
 have q3_7:w3.cell? ⟨g,43,none⟩=some (.bool y35):=(Go.Joins.cell_of_block C3.out 43).trans (CX.out 43 _ rfl)
 have q3_8:w3.cell? ⟨g,44,none⟩=some (.bool y36):=(Go.Joins.cell_of_block C3.out 44).trans (CX.out 44 _ rfl)
 have q3_9:w3.cell? ⟨g,45,none⟩=some (.bool y37):=(Go.Joins.cell_of_block C3.out 45).trans (CX.out 45 _ rfl)
 have q3_10:w3.cell? ⟨g,46,none⟩=some (.int .i64 f3):=(Go.Joins.cell_of_block C3.out 46).trans (CX.out 46 _ rfl)
 have q3_11:w3.cell? ⟨g,47,none⟩=some (.int .i64 1):=(Go.Joins.cell_of_block C3.out 47).trans (CX.out 47 _ rfl)
 have gz3:g<w3.heap.size:=(Array.getElem?_eq_some_iff.1 C3.out).1
 clear hI hk us2_0 us2_1 BU2 I2 C2 S2
 go_wp2_with fail
 rw [rounds_succ]
 go_wp2_with fail
 refine (P'.out _ (T3.out.keep (Go.Joins.below_alloc2 _ _ _))).mono ?_
 rintro e u3 ⟨rfl,hb⟩
 have BU3:Hid (Below w3.heap.size w3 u3):=below_then (Go.Joins.below_alloc2 _ _ _) hb
 have us3_0:u3.cell? ⟨w3.heap.size,0,none⟩=some (.int .u64 A3):=cell_next hb (sz2a w3 _ _) (Go.Joins.cell_of_block (own2a w3 _ _) 0)
 have us3_1:u3.cell? ⟨w3.heap.size,1,none⟩=some (.int .u64 X3):=cell_next hb (sz2a w3 _ _) (Go.Joins.cell_of_block (own2a w3 _ _) 1)
 clear hb q3_0 q3_1 q3_2 q3_3 q3_4 q3_5 q3_6 q3_7 q3_8 q3_9 q3_10 q3_11
 go_wp2_with fail
 refine (S3.out _ (I3.out.grown (grown_of_below' BU3.out))).mono ?_
 rintro e w4 ⟨rfl,hI,hk⟩
 have I4:Hid (IsRamK w4 K rb has F (mset (mset (mset (mset M A0 8 Y0) A1 8 Y1) A2 8 Y2) A3 8 Y3) (m+8)):=hI
 have C4:Hid (w4.heap[g]? =some (.cells cur 131 (0,0))):=(hk.block g KG.out).trans ((BU3.out.block g (Array.getElem?_eq_some_iff.1 C3.out).1).trans C3.out)
 have T4:Hid (Tab w4):=(T3.out.keep BU3.out).kept hk KZ.out
 have N4:Hid (Kept K w w4):=(N3.out.trans (kept_of_below BU3.out I3.out.dom)).trans hk
 clear hI hk us3_0 us3_1 BU3 I3 C3 S3
 go_wp2_with fail
 rw [rounds_succ]
 go_wp2_with fail
 go_end0
 exact ⟨rfl,I4.out,N4.out,T4.out⟩
end Go.Proofs.YtkiclbnbnjbcaaaDoor
