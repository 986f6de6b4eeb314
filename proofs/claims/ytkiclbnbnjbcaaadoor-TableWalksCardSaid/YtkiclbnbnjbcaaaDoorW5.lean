import Derived.Test.YtkiclbnbnjbcaaaDoorW4
namespace Go.Proofs.YtkiclbnbnjbcaaaDoor
open Go.ChangeShapes Go.WideShapes Go.ChangeAt Go.RowKit Go.Maps
set_option linter.unusedSimpArgs false
set_option linter.unusedVariables false
set_option maxRecDepth 8000
abbrev zW5a (x0 x1:Int) (x2 x3 x4 x5 x6 x7 x8 x9:Bool) (x10 x11:Int):Array Value:=#[.int .u64 x0,.int .u64 x1,.bool x2,.bool x3,.bool x4,.bool x5,.bool x6,.bool x7,.bool x8,.bool x9,.int .i64 x10,.int .i64 x11]
abbrev zW5b (x0 x1 x2 x3:Int):Array Value:=#[.int .i64 x0,.int .i64 x1,.int .i64 x2,.int .i64 x3]
abbrev zW5c (x0 x1:Int) (x2 x3 x4 x5 x6 x7 x8 x9:Bool) (x10 x11:Int):List Value:=[.int .u64 x0,.int .u64 x1,.bool x2,.bool x3,.bool x4,.bool x5,.bool x6,.bool x7,.bool x8,.bool x9,.int .i64 x10,.int .i64 x11]
set_option maxHeartbeats 4000000 in
theorem follow3 {rb n:Nat} {has:Int->Bool} {F:Int} {M:Int->Int} (T ad cd p0 p1 p2 p3:Int) (A0 X0 f0:Int) (y00 y01 y02 y03 y04 y05 y06 y07:Bool) (A1 X1 f1:Int) (y10 y11 y12 y13 y14 y15 y16 y17:Bool) (A2 X2 f2:Int) (y20 y21 y22 y23 y24 y26 y27:Bool)
 (l0:Hid (∀ w:World,Rd w rb has F M n->Calls Tryd.prog 76 #[.pointer (some ⟨rb,0,none⟩),.int .i64 T,.int .i64 p0,.int .i64 4,.agg #[.int .u64 ad,.int .i64 cd]] w fun e w'=>e=.returned (.agg (zW5a A0 X0 y00 y01 y02 y03 y04 y05 y06 y07 f0 4))/\Below w.heap.size w w'))
 (l1:Hid (∀ w:World,Rd w rb has F M n->Calls Tryd.prog 76 #[.pointer (some ⟨rb,0,none⟩),.int .i64 f0,.int .i64 p1,.int .i64 3,.agg #[.int .u64 ad,.int .i64 cd]] w fun e w'=>e=.returned (.agg (zW5a A1 X1 y10 y11 y12 y13 y14 y15 y16 y17 f1 3))/\Below w.heap.size w w'))
 (l2:Hid (∀ w:World,Rd w rb has F M n->Calls Tryd.prog 76 #[.pointer (some ⟨rb,0,none⟩),.int .i64 f1,.int .i64 p2,.int .i64 2,.agg #[.int .u64 ad,.int .i64 cd]] w fun e w'=>e=.returned (.agg (zW5a A2 X2 y20 y21 y22 y23 y24 true y26 y27 f2 2))/\Below w.heap.size w w')) (w:World) (h:Rd w rb has F M n) :
 Calls Tryd.prog 51 #[.pointer (some ⟨rb,0,none⟩),.int .i64 T,.agg (zW5b p0 p1 p2 p3),.agg #[.int .u64 ad,.int .i64 cd]] w fun e w'=> ∃ v,e=.returned v/\Way w' (w.heap.size+2) v 3 (((([]:List Value)++((zW5c A0 X0 y00 y01 y02 y03 y04 y05 y06 y07 f0 4):List Value))++((zW5c A1 X1 y10 y11 y12 y13 y14 y15 y16 y17 f1 3):List Value))++((zW5c A2 X2 y20 y21 y22 y23 y24 true y26 y27 f2 2):List Value))/\Below w.heap.size w w':=by
 have g0:Hid (∀ w:World,Calls Tryd.prog 77 #[.agg (zW5a A0 X0 y00 y01 y02 y03 y04 y05 y06 y07 f0 4)] w fun e w'=>e=.returned (.bool false)/\Below w.heap.size w w'):=fun w=>large_any A0 X0 f0 4 y00 y01 y02 y03 y04 y05 y06 y07 w
 have g1:Hid (∀ w:World,Calls Tryd.prog 77 #[.agg (zW5a A1 X1 y10 y11 y12 y13 y14 y15 y16 y17 f1 3)] w fun e w'=>e=.returned (.bool false)/\Below w.heap.size w w'):=fun w=>large_any A1 X1 f1 3 y10 y11 y12 y13 y14 y15 y16 y17 w
 have g2:Hid (∀ w:World,Calls Tryd.prog 77 #[.agg (zW5a A2 X2 y20 y21 y22 y23 y24 true y26 y27 f2 2)] w fun e w'=>e=.returned (.bool true)/\Below w.heap.size w w'):=fun w=>large_any A2 X2 f2 2 y20 y21 y22 y23 y24 true y26 y27 w
 obtain ⟨i0,hi,hz0,hz1,hz2⟩:=info5 step_info5
 obtain ⟨Z,hZ,mk⟩:=make_steps
 have H:Hid (Rd w rb has F M n):=h
 have i0':=idx4_0
 have i1':=idx4_1
 have i2':=idx4_2
 have i3':=idx4_3
 have MX0:Hid (0+1<=maxLen):=by show _<=_;unfold maxLen;decide
 have MX1:Hid (1+1<=maxLen):=by show _<=_;unfold maxLen;decide
 have MX2:Hid (2+1<=maxLen):=by show _<=_;unfold maxLen;decide
 have MX3:Hid (3+1<=maxLen):=by show _<=_;unfold maxLen;decide
 have PB0:Hid (Below w.heap.size w (((w.alloc (.cells (zW5b p0 p1 p2 p3) 120)).alloc (.cells #[.int .u64 ad,.int .i64 cd] 58)).alloc (.cells Z 131))):=Go.Joins.below_alloc3 _ _ _ _
 have PZ0:Hid (w.heap.size+1<(((w.alloc (.cells (zW5b p0 p1 p2 p3) 120)).alloc (.cells #[.int .u64 ad,.int .i64 cd] 58)).alloc (.cells Z 131)).heap.size):=by show _<_;simp
 have PM0:Hid ((((w.alloc (.cells (zW5b p0 p1 p2 p3) 120)).alloc (.cells #[.int .u64 ad,.int .i64 cd] 58)).alloc (.cells Z 131)).cell? ⟨w.heap.size+1,0,none⟩=some (.int .u64 ad)/\(((w.alloc (.cells (zW5b p0 p1 p2 p3) 120)).alloc (.cells #[.int .u64 ad,.int .i64 cd] 58)).alloc (.cells Z 131)).cell? ⟨w.heap.size+1,1,none⟩=some (.int .i64 cd)):=⟨Go.Joins.cell_of_block (own3b w _ _ _) 0,Go.Joins.cell_of_block (own3b w _ _ _) 1⟩
 have PW0:Hid (Way (((w.alloc (.cells (zW5b p0 p1 p2 p3) 120)).alloc (.cells #[.int .u64 ad,.int .i64 cd] 58)).alloc (.cells Z 131)) (w.heap.size+2) (.slice (some ⟨w.heap.size+2,0,none⟩) 0 4) 0 ([]:List Value)):=by
  have:=Way.made ((w.alloc (.cells (zW5b p0 p1 p2 p3) 120)).alloc (.cells #[.int .u64 ad,.int .i64 cd] 58)) Z hZ
  rw [World.size_alloc,World.size_alloc] at this
  exact this
 clear h hZ
 go_enter Tryd.func51,Tryd.ntmps51
 go_wp2_with fail
 refine wp_loop_rounds 5 ?_
 rw [rounds_succ]
 go_wp2_with fail
 refine (l0.out _ (H.out.keep PB0.out)).mono ?_
 rintro e u0 ⟨rfl,hb⟩
 have zm:w.heap.size+1<u0.heap.size:=Nat.lt_of_lt_of_le PZ0.out hb.size
 have um0_0:u0.cell? ⟨w.heap.size+1,0,none⟩=some (.int .u64 ad):=cell_next hb PZ0.out PM0.out.1
 have um0_1:u0.cell? ⟨w.heap.size+1,1,none⟩=some (.int .i64 cd):=cell_next hb PZ0.out PM0.out.2
 have WU:Hid (Way u0 (w.heap.size+2) (.slice (some ⟨w.heap.size+2,0,none⟩) 0 4) 0 ([]:List Value)):=PW0.out.keep hb
 have BU:Hid (Below w.heap.size w u0):=below_then PB0.out hb
 have ZM:Hid (w.heap.size+1<u0.heap.size):=zm
 have MM:Hid (u0.cell? ⟨w.heap.size+1,0,none⟩=some (.int .u64 ad)/\u0.cell? ⟨w.heap.size+1,1,none⟩=some (.int .i64 cd)):=⟨um0_0,um0_1⟩
 clear hb zm um0_0 um0_1 PB0 PZ0 PM0 PW0
 have OW:Hid (((u0.alloc (.cells (zW5a A0 X0 y00 y01 y02 y03 y04 y05 y06 y07 f0 4) 131)).alloc (.cells (zW5a A0 X0 y00 y01 y02 y03 y04 y05 y06 y07 f0 4) 131)).ownsRow (w.heap.size+2) 131 12 (.slice (some ⟨w.heap.size+2,0,none⟩) 0 4) 0 ([]:List Value)):=(WU.out.keep (Go.Joins.below_alloc2 _ _ _)).1
 have NW:Hid (∀ j x,((zW5c A0 X0 y00 y01 y02 y03 y04 y05 y06 y07 f0 4):List Value)[j]? =some x->((u0.alloc (.cells (zW5a A0 X0 y00 y01 y02 y03 y04 y05 y06 y07 f0 4) 131)).alloc (.cells (zW5a A0 X0 y00 y01 y02 y03 y04 y05 y06 y07 f0 4) 131)).cell? ((⟨u0.heap.size+1,0,none⟩:Addr).add j)=some x):=news_cells u0 _ (zW5a A0 X0 y00 y01 y02 y03 y04 y05 y06 y07 f0 4) 131
 have ON:Hid (∀ x∈((zW5c A0 X0 y00 y01 y02 y03 y04 y05 y06 y07 f0 4):List Value),x.oneCell'=true):=by show ∀ x∈((zW5c A0 X0 y00 y01 y02 y03 y04 y05 y06 y07 f0 4):List Value),x.oneCell'=true;simp [Value.oneCell']
 have HZ:Hid (w.heap.size+2<=((u0.alloc (.cells (zW5a A0 X0 y00 y01 y02 y03 y04 y05 y06 y07 f0 4) 131)).alloc (.cells (zW5a A0 X0 y00 y01 y02 y03 y04 y05 y06 y07 f0 4) 131)).heap.size):=by show _<=_;rw [World.size_alloc,World.size_alloc];have:=ZM.out;omega
 go_wp2_with (at_builtin;refine wpList_append_own _ rfl _ _ 124 rfl (w.heap.size+2) 131 i0 zstep 12 40 Tryd.underlying124 hi hz0 hz1 hz2 rfl (by decide) (.slice (some ⟨w.heap.size+2,0,none⟩) 0 4) 0 ([]:List Value) rfl OW.out ⟨u0.heap.size+1,0,none⟩ 1 1 ((zW5c A0 X0 y00 y01 y02 y03 y04 y05 y06 y07 f0 4):List Value) rfl rfl NW.out ON.out MX0.out (by decide) HZ.out ?_;intro v1 a0 hown hg hnil;have WA:Hid (Way a0 (w.heap.size+2) v1 1 (([]:List Value)++((zW5c A0 X0 y00 y01 y02 y03 y04 y05 y06 y07 f0 4):List Value))):=Way.of_own hown (by omega);have BA:Hid (Below w.heap.size w a0):=(below_new2 BU.out _ _).grown hg (below_new2 BU.out _ _).size (fun j e=>by obtain ⟨g,h1,h2,h3⟩:=WU.out.own;rw [h1] at e;cases e;omega);have s0_0:a0.cell? ⟨u0.heap.size,0,none⟩=some (.int .u64 A0):=cell_grown hg (by rw [World.size_alloc,World.size_alloc];omega) (by obtain ⟨g,h1,h2,h3⟩:=WU.out.own;rw [h1];intro e;cases e;omega) (Go.Joins.cell_of_block (own2a u0 _ _) 0);have s0_1:a0.cell? ⟨u0.heap.size,1,none⟩=some (.int .u64 X0):=cell_grown hg (by rw [World.size_alloc,World.size_alloc];omega) (by obtain ⟨g,h1,h2,h3⟩:=WU.out.own;rw [h1];intro e;cases e;omega) (Go.Joins.cell_of_block (own2a u0 _ _) 1);have s0_2:a0.cell? ⟨u0.heap.size,2,none⟩=some (.bool y00):=cell_grown hg (by rw [World.size_alloc,World.size_alloc];omega) (by obtain ⟨g,h1,h2,h3⟩:=WU.out.own;rw [h1];intro e;cases e;omega) (Go.Joins.cell_of_block (own2a u0 _ _) 2);have s0_3:a0.cell? ⟨u0.heap.size,3,none⟩=some (.bool y01):=cell_grown hg (by rw [World.size_alloc,World.size_alloc];omega) (by obtain ⟨g,h1,h2,h3⟩:=WU.out.own;rw [h1];intro e;cases e;omega) (Go.Joins.cell_of_block (own2a u0 _ _) 3);have s0_4:a0.cell? ⟨u0.heap.size,4,none⟩=some (.bool y02):=cell_grown hg (by rw [World.size_alloc,World.size_alloc];omega) (by obtain ⟨g,h1,h2,h3⟩:=WU.out.own;rw [h1];intro e;cases e;omega) (Go.Joins.cell_of_block (own2a u0 _ _) 4);have s0_5:a0.cell? ⟨u0.heap.size,5,none⟩=some (.bool y03):=cell_grown hg (by rw [World.size_alloc,World.size_alloc];omega) (by obtain ⟨g,h1,h2,h3⟩:=WU.out.own;rw [h1];intro e;cases e;omega) (Go.Joins.cell_of_block (own2a u0 _ _) 5);have s0_6:a0.cell? ⟨u0.heap.size,6,none⟩=some (.bool y04):=cell_grown hg (by rw [World.size_alloc,World.size_alloc];omega) (by obtain ⟨g,h1,h2,h3⟩:=WU.out.own;rw [h1];intro e;cases e;omega) (Go.Joins.cell_of_block (own2a u0 _ _) 6);have s0_7:a0.cell? ⟨u0.heap.size,7,none⟩=some (.bool y05):=cell_grown hg (by rw [World.size_alloc,World.size_alloc];omega) (by obtain ⟨g,h1,h2,h3⟩:=WU.out.own;rw [h1];intro e;cases e;omega) (Go.Joins.cell_of_block (own2a u0 _ _) 7);have s0_8:a0.cell? ⟨u0.heap.size,8,none⟩=some (.bool y06):=cell_grown hg (by rw [World.size_alloc,World.size_alloc];omega) (by obtain ⟨g,h1,h2,h3⟩:=WU.out.own;rw [h1];intro e;cases e;omega) (Go.Joins.cell_of_block (own2a u0 _ _) 8);have s0_9:a0.cell? ⟨u0.heap.size,9,none⟩=some (.bool y07):=cell_grown hg (by rw [World.size_alloc,World.size_alloc];omega) (by obtain ⟨g,h1,h2,h3⟩:=WU.out.own;rw [h1];intro e;cases e;omega) (Go.Joins.cell_of_block (own2a u0 _ _) 9);have s0_10:a0.cell? ⟨u0.heap.size,10,none⟩=some (.int .i64 f0):=cell_grown hg (by rw [World.size_alloc,World.size_alloc];omega) (by obtain ⟨g,h1,h2,h3⟩:=WU.out.own;rw [h1];intro e;cases e;omega) (Go.Joins.cell_of_block (own2a u0 _ _) 10);have s0_11:a0.cell? ⟨u0.heap.size,11,none⟩=some (.int .i64 4):=cell_grown hg (by rw [World.size_alloc,World.size_alloc];omega) (by obtain ⟨g,h1,h2,h3⟩:=WU.out.own;rw [h1];intro e;cases e;omega) (Go.Joins.cell_of_block (own2a u0 _ _) 11);have SZ:u0.heap.size<a0.heap.size:=Nat.lt_of_lt_of_le (by rw [World.size_alloc,World.size_alloc];omega) hg.size;have am0_0:a0.cell? ⟨w.heap.size+1,0,none⟩=some (.int .u64 ad):=cell_grown hg (by rw [World.size_alloc,World.size_alloc];have:=ZM.out;omega) (by obtain ⟨g,h1,h2,h3⟩:=WU.out.own;rw [h1];intro e;cases e;omega) ((cell_old2 ZM.out _ _).trans MM.out.1);have am0_1:a0.cell? ⟨w.heap.size+1,1,none⟩=some (.int .i64 cd):=cell_grown hg (by rw [World.size_alloc,World.size_alloc];have:=ZM.out;omega) (by obtain ⟨g,h1,h2,h3⟩:=WU.out.own;rw [h1];intro e;cases e;omega) ((cell_old2 ZM.out _ _).trans MM.out.2);have AZ:Hid (w.heap.size+1<a0.heap.size):=Nat.lt_trans ZM.out SZ;have AS:Hid (u0.heap.size<a0.heap.size):=SZ;have AM:Hid (a0.cell? ⟨w.heap.size+1,0,none⟩=some (.int .u64 ad)/\a0.cell? ⟨w.heap.size+1,1,none⟩=some (.int .i64 cd)):=⟨am0_0,am0_1⟩;clear hown hg hnil OW NW ON HZ am0_0 am0_1 WU BU MM ZM SZ)
 refine (g0.out _).mono ?_
 rintro e b0 ⟨rfl,hb⟩
 have t0_10:b0.cell? ⟨u0.heap.size,10,none⟩=some (.int .i64 f0):=cell_next hb AS.out s0_10
 have pm1_0:b0.cell? ⟨w.heap.size+1,0,none⟩=some (.int .u64 ad):=cell_next hb AZ.out AM.out.1
 have pm1_1:b0.cell? ⟨w.heap.size+1,1,none⟩=some (.int .i64 cd):=cell_next hb AZ.out AM.out.2
 have PB1:Hid (Below w.heap.size w b0):=below_then BA.out hb
 have PZ1:Hid (w.heap.size+1<b0.heap.size):=Nat.lt_of_lt_of_le AZ.out hb.size
 have PM1:Hid (b0.cell? ⟨w.heap.size+1,0,none⟩=some (.int .u64 ad)/\b0.cell? ⟨w.heap.size+1,1,none⟩=some (.int .i64 cd)):=⟨pm1_0,pm1_1⟩
 have PW1:Hid (Way b0 (w.heap.size+2) v1 1 (([]:List Value)++((zW5c A0 X0 y00 y01 y02 y03 y04 y05 y06 y07 f0 4):List Value))):=WA.out.keep hb
 clear hb WA BA AM AZ AS s0_0 s0_1 s0_2 s0_3 s0_4 s0_5 s0_6 s0_7 s0_8 s0_9 s0_10 s0_11
 go_wp2_with fail
 rw [rounds_succ]
 go_wp2_with fail
 refine (l1.out _ (H.out.keep PB1.out)).mono ?_
 rintro e u1 ⟨rfl,hb⟩
 have zm:w.heap.size+1<u1.heap.size:=Nat.lt_of_lt_of_le PZ1.out hb.size
 have um1_0:u1.cell? ⟨w.heap.size+1,0,none⟩=some (.int .u64 ad):=cell_next hb PZ1.out PM1.out.1
 have um1_1:u1.cell? ⟨w.heap.size+1,1,none⟩=some (.int .i64 cd):=cell_next hb PZ1.out PM1.out.2
 have WU:Hid (Way u1 (w.heap.size+2) v1 1 (([]:List Value)++((zW5c A0 X0 y00 y01 y02 y03 y04 y05 y06 y07 f0 4):List Value))):=PW1.out.keep hb
 have BU:Hid (Below w.heap.size w u1):=below_then PB1.out hb
 have ZM:Hid (w.heap.size+1<u1.heap.size):=zm
 have MM:Hid (u1.cell? ⟨w.heap.size+1,0,none⟩=some (.int .u64 ad)/\u1.cell? ⟨w.heap.size+1,1,none⟩=some (.int .i64 cd)):=⟨um1_0,um1_1⟩
 clear hb zm um1_0 um1_1 PB1 PZ1 PM1 PW1 pm1_0 pm1_1
 have OW:Hid (((u1.alloc (.cells (zW5a A1 X1 y10 y11 y12 y13 y14 y15 y16 y17 f1 3) 131)).alloc (.cells (zW5a A1 X1 y10 y11 y12 y13 y14 y15 y16 y17 f1 3) 131)).ownsRow (w.heap.size+2) 131 12 v1 1 (([]:List Value)++((zW5c A0 X0 y00 y01 y02 y03 y04 y05 y06 y07 f0 4):List Value))):=(WU.out.keep (Go.Joins.below_alloc2 _ _ _)).1
 have NW:Hid (∀ j x,((zW5c A1 X1 y10 y11 y12 y13 y14 y15 y16 y17 f1 3):List Value)[j]? =some x->((u1.alloc (.cells (zW5a A1 X1 y10 y11 y12 y13 y14 y15 y16 y17 f1 3) 131)).alloc (.cells (zW5a A1 X1 y10 y11 y12 y13 y14 y15 y16 y17 f1 3) 131)).cell? ((⟨u1.heap.size+1,0,none⟩:Addr).add j)=some x):=news_cells u1 _ (zW5a A1 X1 y10 y11 y12 y13 y14 y15 y16 y17 f1 3) 131
 have ON:Hid (∀ x∈((zW5c A1 X1 y10 y11 y12 y13 y14 y15 y16 y17 f1 3):List Value),x.oneCell'=true):=by show ∀ x∈((zW5c A1 X1 y10 y11 y12 y13 y14 y15 y16 y17 f1 3):List Value),x.oneCell'=true;simp [Value.oneCell']
 have HZ:Hid (w.heap.size+2<=((u1.alloc (.cells (zW5a A1 X1 y10 y11 y12 y13 y14 y15 y16 y17 f1 3) 131)).alloc (.cells (zW5a A1 X1 y10 y11 y12 y13 y14 y15 y16 y17 f1 3) 131)).heap.size):=by show _<=_;rw [World.size_alloc,World.size_alloc];have:=ZM.out;omega
 go_wp2_with (at_builtin;refine wpList_append_own _ rfl _ _ 124 rfl (w.heap.size+2) 131 i0 zstep 12 40 Tryd.underlying124 hi hz0 hz1 hz2 rfl (by decide) v1 1 (([]:List Value)++((zW5c A0 X0 y00 y01 y02 y03 y04 y05 y06 y07 f0 4):List Value)) rfl OW.out ⟨u1.heap.size+1,0,none⟩ 1 1 ((zW5c A1 X1 y10 y11 y12 y13 y14 y15 y16 y17 f1 3):List Value) rfl rfl NW.out ON.out MX1.out (by decide) HZ.out ?_;intro v2 a1 hown hg hnil;have WA:Hid (Way a1 (w.heap.size+2) v2 2 ((([]:List Value)++((zW5c A0 X0 y00 y01 y02 y03 y04 y05 y06 y07 f0 4):List Value))++((zW5c A1 X1 y10 y11 y12 y13 y14 y15 y16 y17 f1 3):List Value))):=Way.of_own hown (by omega);have BA:Hid (Below w.heap.size w a1):=(below_new2 BU.out _ _).grown hg (below_new2 BU.out _ _).size (fun j e=>by obtain ⟨g,h1,h2,h3⟩:=WU.out.own;rw [h1] at e;cases e;omega);have s1_0:a1.cell? ⟨u1.heap.size,0,none⟩=some (.int .u64 A1):=cell_grown hg (by rw [World.size_alloc,World.size_alloc];omega) (by obtain ⟨g,h1,h2,h3⟩:=WU.out.own;rw [h1];intro e;cases e;omega) (Go.Joins.cell_of_block (own2a u1 _ _) 0);have s1_1:a1.cell? ⟨u1.heap.size,1,none⟩=some (.int .u64 X1):=cell_grown hg (by rw [World.size_alloc,World.size_alloc];omega) (by obtain ⟨g,h1,h2,h3⟩:=WU.out.own;rw [h1];intro e;cases e;omega) (Go.Joins.cell_of_block (own2a u1 _ _) 1);have s1_2:a1.cell? ⟨u1.heap.size,2,none⟩=some (.bool y10):=cell_grown hg (by rw [World.size_alloc,World.size_alloc];omega) (by obtain ⟨g,h1,h2,h3⟩:=WU.out.own;rw [h1];intro e;cases e;omega) (Go.Joins.cell_of_block (own2a u1 _ _) 2);have s1_3:a1.cell? ⟨u1.heap.size,3,none⟩=some (.bool y11):=cell_grown hg (by rw [World.size_alloc,World.size_alloc];omega) (by obtain ⟨g,h1,h2,h3⟩:=WU.out.own;rw [h1];intro e;cases e;omega) (Go.Joins.cell_of_block (own2a u1 _ _) 3);have s1_4:a1.cell? ⟨u1.heap.size,4,none⟩=some (.bool y12):=cell_grown hg (by rw [World.size_alloc,World.size_alloc];omega) (by obtain ⟨g,h1,h2,h3⟩:=WU.out.own;rw [h1];intro e;cases e;omega) (Go.Joins.cell_of_block (own2a u1 _ _) 4);have s1_5:a1.cell? ⟨u1.heap.size,5,none⟩=some (.bool y13):=cell_grown hg (by rw [World.size_alloc,World.size_alloc];omega) (by obtain ⟨g,h1,h2,h3⟩:=WU.out.own;rw [h1];intro e;cases e;omega) (Go.Joins.cell_of_block (own2a u1 _ _) 5);have s1_6:a1.cell? ⟨u1.heap.size,6,none⟩=some (.bool y14):=cell_grown hg (by rw [World.size_alloc,World.size_alloc];omega) (by obtain ⟨g,h1,h2,h3⟩:=WU.out.own;rw [h1];intro e;cases e;omega) (Go.Joins.cell_of_block (own2a u1 _ _) 6);have s1_7:a1.cell? ⟨u1.heap.size,7,none⟩=some (.bool y15):=cell_grown hg (by rw [World.size_alloc,World.size_alloc];omega) (by obtain ⟨g,h1,h2,h3⟩:=WU.out.own;rw [h1];intro e;cases e;omega) (Go.Joins.cell_of_block (own2a u1 _ _) 7);have s1_8:a1.cell? ⟨u1.heap.size,8,none⟩=some (.bool y16):=cell_grown hg (by rw [World.size_alloc,World.size_alloc];omega) (by obtain ⟨g,h1,h2,h3⟩:=WU.out.own;rw [h1];intro e;cases e;omega) (Go.Joins.cell_of_block (own2a u1 _ _) 8);have s1_9:a1.cell? ⟨u1.heap.size,9,none⟩=some (.bool y17):=cell_grown hg (by rw [World.size_alloc,World.size_alloc];omega) (by obtain ⟨g,h1,h2,h3⟩:=WU.out.own;rw [h1];intro e;cases e;omega) (Go.Joins.cell_of_block (own2a u1 _ _) 9);have s1_10:a1.cell? ⟨u1.heap.size,10,none⟩=some (.int .i64 f1):=cell_grown hg (by rw [World.size_alloc,World.size_alloc];omega) (by obtain ⟨g,h1,h2,h3⟩:=WU.out.own;rw [h1];intro e;cases e;omega) (Go.Joins.cell_of_block (own2a u1 _ _) 10);have s1_11:a1.cell? ⟨u1.heap.size,11,none⟩=some (.int .i64 3):=cell_grown hg (by rw [World.size_alloc,World.size_alloc];omega) (by obtain ⟨g,h1,h2,h3⟩:=WU.out.own;rw [h1];intro e;cases e;omega) (Go.Joins.cell_of_block (own2a u1 _ _) 11);have SZ:u1.heap.size<a1.heap.size:=Nat.lt_of_lt_of_le (by rw [World.size_alloc,World.size_alloc];omega) hg.size;have am1_0:a1.cell? ⟨w.heap.size+1,0,none⟩=some (.int .u64 ad):=cell_grown hg (by rw [World.size_alloc,World.size_alloc];have:=ZM.out;omega) (by obtain ⟨g,h1,h2,h3⟩:=WU.out.own;rw [h1];intro e;cases e;omega) ((cell_old2 ZM.out _ _).trans MM.out.1);have am1_1:a1.cell? ⟨w.heap.size+1,1,none⟩=some (.int .i64 cd):=cell_grown hg (by rw [World.size_alloc,World.size_alloc];have:=ZM.out;omega) (by obtain ⟨g,h1,h2,h3⟩:=WU.out.own;rw [h1];intro e;cases e;omega) ((cell_old2 ZM.out _ _).trans MM.out.2);have AZ:Hid (w.heap.size+1<a1.heap.size):=Nat.lt_trans ZM.out SZ;have AS:Hid (u1.heap.size<a1.heap.size):=SZ;have AM:Hid (a1.cell? ⟨w.heap.size+1,0,none⟩=some (.int .u64 ad)/\a1.cell? ⟨w.heap.size+1,1,none⟩=some (.int .i64 cd)):=⟨am1_0,am1_1⟩;clear hown hg hnil OW NW ON HZ am1_0 am1_1 WU BU MM ZM SZ)
 refine (g1.out _).mono ?_
 rintro e b1 ⟨rfl,hb⟩
 have t1_10:b1.cell? ⟨u1.heap.size,10,none⟩=some (.int .i64 f1):=cell_next hb AS.out s1_10
 have pm2_0:b1.cell? ⟨w.heap.size+1,0,none⟩=some (.int .u64 ad):=cell_next hb AZ.out AM.out.1
 have pm2_1:b1.cell? ⟨w.heap.size+1,1,none⟩=some (.int .i64 cd):=cell_next hb AZ.out AM.out.2
 have PB2:Hid (Below w.heap.size w b1):=below_then BA.out hb
 have PZ2:Hid (w.heap.size+1<b1.heap.size):=Nat.lt_of_lt_of_le AZ.out hb.size
 have PM2:Hid (b1.cell? ⟨w.heap.size+1,0,none⟩=some (.int .u64 ad)/\b1.cell? ⟨w.heap.size+1,1,none⟩=some (.int .i64 cd)):=⟨pm2_0,pm2_1⟩
 have PW2:Hid (Way b1 (w.heap.size+2) v2 2 ((([]:List Value)++((zW5c A0 X0 y00 y01 y02 y03 y04 y05 y06 y07 f0 4):List Value))++((zW5c A1 X1 y10 y11 y12 y13 y14 y15 y16 y17 f1 3):List Value))):=WA.out.keep hb
 clear hb WA BA AM AZ AS s1_0 s1_1 s1_2 s1_3 s1_4 s1_5 s1_6 s1_7 s1_8 s1_9 s1_10 s1_11
 go_wp2_with fail
 rw [rounds_succ]
 go_wp2_with fail
 refine (l2.out _ (H.out.keep PB2.out)).mono ?_
 rintro e u2 ⟨rfl,hb⟩
 have zm:w.heap.size+1<u2.heap.size:=Nat.lt_of_lt_of_le PZ2.out hb.size
 have um2_0:u2.cell? ⟨w.heap.size+1,0,none⟩=some (.int .u64 ad):=cell_next hb PZ2.out PM2.out.1
 have um2_1:u2.cell? ⟨w.heap.size+1,1,none⟩=some (.int .i64 cd):=cell_next hb PZ2.out PM2.out.2
 have WU:Hid (Way u2 (w.heap.size+2) v2 2 ((([]:List Value)++((zW5c A0 X0 y00 y01 y02 y03 y04 y05 y06 y07 f0 4):List Value))++((zW5c A1 X1 y10 y11 y12 y13 y14 y15 y16 y17 f1 3):List Value))):=PW2.out.keep hb
 have BU:Hid (Below w.heap.size w u2):=below_then PB2.out hb
 have ZM:Hid (w.heap.size+1<u2.heap.size):=zm
 have MM:Hid (u2.cell? ⟨w.heap.size+1,0,none⟩=some (.int .u64 ad)/\u2.cell? ⟨w.heap.size+1,1,none⟩=some (.int .i64 cd)):=⟨um2_0,um2_1⟩
 clear hb zm um2_0 um2_1 PB2 PZ2 PM2 PW2 pm2_0 pm2_1
 have OW:Hid (((u2.alloc (.cells (zW5a A2 X2 y20 y21 y22 y23 y24 true y26 y27 f2 2) 131)).alloc (.cells (zW5a A2 X2 y20 y21 y22 y23 y24 true y26 y27 f2 2) 131)).ownsRow (w.heap.size+2) 131 12 v2 2 ((([]:List Value)++((zW5c A0 X0 y00 y01 y02 y03 y04 y05 y06 y07 f0 4):List Value))++((zW5c A1 X1 y10 y11 y12 y13 y14 y15 y16 y17 f1 3):List Value))):=(WU.out.keep (Go.Joins.below_alloc2 _ _ _)).1
 have NW:Hid (∀ j x,((zW5c A2 X2 y20 y21 y22 y23 y24 true y26 y27 f2 2):List Value)[j]? =some x->((u2.alloc (.cells (zW5a A2 X2 y20 y21 y22 y23 y24 true y26 y27 f2 2) 131)).alloc (.cells (zW5a A2 X2 y20 y21 y22 y23 y24 true y26 y27 f2 2) 131)).cell? ((⟨u2.heap.size+1,0,none⟩:Addr).add j)=some x):=news_cells u2 _ (zW5a A2 X2 y20 y21 y22 y23 y24 true y26 y27 f2 2) 131
 have ON:Hid (∀ x∈((zW5c A2 X2 y20 y21 y22 y23 y24 true y26 y27 f2 2):List Value),x.oneCell'=true):=by show ∀ x∈((zW5c A2 X2 y20 y21 y22 y23 y24 true y26 y27 f2 2):List Value),x.oneCell'=true;simp [Value.oneCell']
 have HZ:Hid (w.heap.size+2<=((u2.alloc (.cells (zW5a A2 X2 y20 y21 y22 y23 y24 true y26 y27 f2 2) 131)).alloc (.cells (zW5a A2 X2 y20 y21 y22 y23 y24 true y26 y27 f2 2) 131)).heap.size):=by show _<=_;rw [World.size_alloc,World.size_alloc];have:=ZM.out;omega
 go_wp2_with (at_builtin;refine wpList_append_own _ rfl _ _ 124 rfl (w.heap.size+2) 131 i0 zstep 12 40 Tryd.underlying124 hi hz0 hz1 hz2 rfl (by decide) v2 2 ((([]:List Value)++((zW5c A0 X0 y00 y01 y02 y03 y04 y05 y06 y07 f0 4):List Value))++((zW5c A1 X1 y10 y11 y12 y13 y14 y15 y16 y17 f1 3):List Value)) rfl OW.out ⟨u2.heap.size+1,0,none⟩ 1 1 ((zW5c A2 X2 y20 y21 y22 y23 y24 true y26 y27 f2 2):List Value) rfl rfl NW.out ON.out MX2.out (by decide) HZ.out ?_;intro v3 a2 hown hg hnil;have WA:Hid (Way a2 (w.heap.size+2) v3 3 (((([]:List Value)++((zW5c A0 X0 y00 y01 y02 y03 y04 y05 y06 y07 f0 4):List Value))++((zW5c A1 X1 y10 y11 y12 y13 y14 y15 y16 y17 f1 3):List Value))++((zW5c A2 X2 y20 y21 y22 y23 y24 true y26 y27 f2 2):List Value))):=Way.of_own hown (by omega);have BA:Hid (Below w.heap.size w a2):=(below_new2 BU.out _ _).grown hg (below_new2 BU.out _ _).size (fun j e=>by obtain ⟨g,h1,h2,h3⟩:=WU.out.own;rw [h1] at e;cases e;omega);have s2_0:a2.cell? ⟨u2.heap.size,0,none⟩=some (.int .u64 A2):=cell_grown hg (by rw [World.size_alloc,World.size_alloc];omega) (by obtain ⟨g,h1,h2,h3⟩:=WU.out.own;rw [h1];intro e;cases e;omega) (Go.Joins.cell_of_block (own2a u2 _ _) 0);have s2_1:a2.cell? ⟨u2.heap.size,1,none⟩=some (.int .u64 X2):=cell_grown hg (by rw [World.size_alloc,World.size_alloc];omega) (by obtain ⟨g,h1,h2,h3⟩:=WU.out.own;rw [h1];intro e;cases e;omega) (Go.Joins.cell_of_block (own2a u2 _ _) 1);have s2_2:a2.cell? ⟨u2.heap.size,2,none⟩=some (.bool y20):=cell_grown hg (by rw [World.size_alloc,World.size_alloc];omega) (by obtain ⟨g,h1,h2,h3⟩:=WU.out.own;rw [h1];intro e;cases e;omega) (Go.Joins.cell_of_block (own2a u2 _ _) 2);have s2_3:a2.cell? ⟨u2.heap.size,3,none⟩=some (.bool y21):=cell_grown hg (by rw [World.size_alloc,World.size_alloc];omega) (by obtain ⟨g,h1,h2,h3⟩:=WU.out.own;rw [h1];intro e;cases e;omega) (Go.Joins.cell_of_block (own2a u2 _ _) 3);have s2_4:a2.cell? ⟨u2.heap.size,4,none⟩=some (.bool y22):=cell_grown hg (by rw [World.size_alloc,World.size_alloc];omega) (by obtain ⟨g,h1,h2,h3⟩:=WU.out.own;rw [h1];intro e;cases e;omega) (Go.Joins.cell_of_block (own2a u2 _ _) 4);have s2_5:a2.cell? ⟨u2.heap.size,5,none⟩=some (.bool y23):=cell_grown hg (by rw [World.size_alloc,World.size_alloc];omega) (by obtain ⟨g,h1,h2,h3⟩:=WU.out.own;rw [h1];intro e;cases e;omega) (Go.Joins.cell_of_block (own2a u2 _ _) 5);have s2_6:a2.cell? ⟨u2.heap.size,6,none⟩=some (.bool y24):=cell_grown hg (by rw [World.size_alloc,World.size_alloc];omega) (by obtain ⟨g,h1,h2,h3⟩:=WU.out.own;rw [h1];intro e;cases e;omega) (Go.Joins.cell_of_block (own2a u2 _ _) 6);have s2_7:a2.cell? ⟨u2.heap.size,7,none⟩=some (.bool true):=cell_grown hg (by rw [World.size_alloc,World.size_alloc];omega) (by obtain ⟨g,h1,h2,h3⟩:=WU.out.own;rw [h1];intro e;cases e;omega) (Go.Joins.cell_of_block (own2a u2 _ _) 7);have s2_8:a2.cell? ⟨u2.heap.size,8,none⟩=some (.bool y26):=cell_grown hg (by rw [World.size_alloc,World.size_alloc];omega) (by obtain ⟨g,h1,h2,h3⟩:=WU.out.own;rw [h1];intro e;cases e;omega) (Go.Joins.cell_of_block (own2a u2 _ _) 8);have s2_9:a2.cell? ⟨u2.heap.size,9,none⟩=some (.bool y27):=cell_grown hg (by rw [World.size_alloc,World.size_alloc];omega) (by obtain ⟨g,h1,h2,h3⟩:=WU.out.own;rw [h1];intro e;cases e;omega) (Go.Joins.cell_of_block (own2a u2 _ _) 9);have s2_10:a2.cell? ⟨u2.heap.size,10,none⟩=some (.int .i64 f2):=cell_grown hg (by rw [World.size_alloc,World.size_alloc];omega) (by obtain ⟨g,h1,h2,h3⟩:=WU.out.own;rw [h1];intro e;cases e;omega) (Go.Joins.cell_of_block (own2a u2 _ _) 10);have s2_11:a2.cell? ⟨u2.heap.size,11,none⟩=some (.int .i64 2):=cell_grown hg (by rw [World.size_alloc,World.size_alloc];omega) (by obtain ⟨g,h1,h2,h3⟩:=WU.out.own;rw [h1];intro e;cases e;omega) (Go.Joins.cell_of_block (own2a u2 _ _) 11);have SZ:u2.heap.size<a2.heap.size:=Nat.lt_of_lt_of_le (by rw [World.size_alloc,World.size_alloc];omega) hg.size;have am2_0:a2.cell? ⟨w.heap.size+1,0,none⟩=some (.int .u64 ad):=cell_grown hg (by rw [World.size_alloc,World.size_alloc];have:=ZM.out;omega) (by obtain ⟨g,h1,h2,h3⟩:=WU.out.own;rw [h1];intro e;cases e;omega) ((cell_old2 ZM.out _ _).trans MM.out.1);have am2_1:a2.cell? ⟨w.heap.size+1,1,none⟩=some (.int .i64 cd):=cell_grown hg (by rw [World.size_alloc,World.size_alloc];have:=ZM.out;omega) (by obtain ⟨g,h1,h2,h3⟩:=WU.out.own;rw [h1];intro e;cases e;omega) ((cell_old2 ZM.out _ _).trans MM.out.2);have AZ:Hid (w.heap.size+1<a2.heap.size):=Nat.lt_trans ZM.out SZ;have AS:Hid (u2.heap.size<a2.heap.size):=SZ;have AM:Hid (a2.cell? ⟨w.heap.size+1,0,none⟩=some (.int .u64 ad)/\a2.cell? ⟨w.heap.size+1,1,none⟩=some (.int .i64 cd)):=⟨am2_0,am2_1⟩;clear hown hg hnil OW NW ON HZ am2_0 am2_1 WU BU MM ZM SZ)
 refine (g2.out _).mono ?_
 rintro e b2 ⟨rfl,hb⟩
 have t2_10:b2.cell? ⟨u2.heap.size,10,none⟩=some (.int .i64 f2):=cell_next hb AS.out s2_10
 have pm3_0:b2.cell? ⟨w.heap.size+1,0,none⟩=some (.int .u64 ad):=cell_next hb AZ.out AM.out.1
 have pm3_1:b2.cell? ⟨w.heap.size+1,1,none⟩=some (.int .i64 cd):=cell_next hb AZ.out AM.out.2
 have PB3:Hid (Below w.heap.size w b2):=below_then BA.out hb
 have PZ3:Hid (w.heap.size+1<b2.heap.size):=Nat.lt_of_lt_of_le AZ.out hb.size
 have PM3:Hid (b2.cell? ⟨w.heap.size+1,0,none⟩=some (.int .u64 ad)/\b2.cell? ⟨w.heap.size+1,1,none⟩=some (.int .i64 cd)):=⟨pm3_0,pm3_1⟩
 have PW3:Hid (Way b2 (w.heap.size+2) v3 3 (((([]:List Value)++((zW5c A0 X0 y00 y01 y02 y03 y04 y05 y06 y07 f0 4):List Value))++((zW5c A1 X1 y10 y11 y12 y13 y14 y15 y16 y17 f1 3):List Value))++((zW5c A2 X2 y20 y21 y22 y23 y24 true y26 y27 f2 2):List Value))):=WA.out.keep hb
 clear hb WA BA AM AZ AS s2_0 s2_1 s2_2 s2_3 s2_4 s2_5 s2_6 s2_7 s2_8 s2_9 s2_10 s2_11
 go_wp2_with fail
 go_ret
 exact ⟨v3,rfl,PW3.out,PB3.out⟩
set_option maxHeartbeats 4000000 in
theorem followP0 {rb n:Nat} {has:Int->Bool} {F:Int} {M:Int->Int} (T ad cd p0 p1 p2 p3:Int) (pe:List PanicEntry)
 (l0:Hid (∀ w:World,Rd w rb has F M n->Calls Tryd.prog 76 #[.pointer (some ⟨rb,0,none⟩),.int .i64 T,.int .i64 p0,.int .i64 4,.agg #[.int .u64 ad,.int .i64 cd]] w fun e w'=>e=.panicked pe/\Below w.heap.size w w')) (w:World) (h:Rd w rb has F M n) :
 Calls Tryd.prog 51 #[.pointer (some ⟨rb,0,none⟩),.int .i64 T,.agg (zW5b p0 p1 p2 p3),.agg #[.int .u64 ad,.int .i64 cd]] w fun e w'=>e=.panicked pe/\Below w.heap.size w w':=by
 obtain ⟨i0,hi,hz0,hz1,hz2⟩:=info5 step_info5
 obtain ⟨Z,hZ,mk⟩:=make_steps
 have H:Hid (Rd w rb has F M n):=h
 have i0':=idx4_0
 have i1':=idx4_1
 have i2':=idx4_2
 have i3':=idx4_3
 have MX0:Hid (0+1<=maxLen):=by show _<=_;unfold maxLen;decide
 have MX1:Hid (1+1<=maxLen):=by show _<=_;unfold maxLen;decide
 have MX2:Hid (2+1<=maxLen):=by show _<=_;unfold maxLen;decide
 have MX3:Hid (3+1<=maxLen):=by show _<=_;unfold maxLen;decide
 have PB0:Hid (Below w.heap.size w (((w.alloc (.cells (zW5b p0 p1 p2 p3) 120)).alloc (.cells #[.int .u64 ad,.int .i64 cd] 58)).alloc (.cells Z 131))):=Go.Joins.below_alloc3 _ _ _ _
 have PZ0:Hid (w.heap.size+1<(((w.alloc (.cells (zW5b p0 p1 p2 p3) 120)).alloc (.cells #[.int .u64 ad,.int .i64 cd] 58)).alloc (.cells Z 131)).heap.size):=by show _<_;simp
 have PM0:Hid ((((w.alloc (.cells (zW5b p0 p1 p2 p3) 120)).alloc (.cells #[.int .u64 ad,.int .i64 cd] 58)).alloc (.cells Z 131)).cell? ⟨w.heap.size+1,0,none⟩=some (.int .u64 ad)/\(((w.alloc (.cells (zW5b p0 p1 p2 p3) 120)).alloc (.cells #[.int .u64 ad,.int .i64 cd] 58)).alloc (.cells Z 131)).cell? ⟨w.heap.size+1,1,none⟩=some (.int .i64 cd)):=⟨Go.Joins.cell_of_block (own3b w _ _ _) 0,Go.Joins.cell_of_block (own3b w _ _ _) 1⟩
 have PW0:Hid (Way (((w.alloc (.cells (zW5b p0 p1 p2 p3) 120)).alloc (.cells #[.int .u64 ad,.int .i64 cd] 58)).alloc (.cells Z 131)) (w.heap.size+2) (.slice (some ⟨w.heap.size+2,0,none⟩) 0 4) 0 ([]:List Value)):=by
  have:=Way.made ((w.alloc (.cells (zW5b p0 p1 p2 p3) 120)).alloc (.cells #[.int .u64 ad,.int .i64 cd] 58)) Z hZ
  rw [World.size_alloc,World.size_alloc] at this
  exact this
 clear h hZ
 go_enter Tryd.func51,Tryd.ntmps51
 go_wp2_with fail
 refine wp_loop_rounds 5 ?_
 rw [rounds_succ]
 go_wp2_with fail
 refine (l0.out _ (H.out.keep PB0.out)).mono ?_
 rintro e u0 ⟨rfl,hb⟩
 exact ⟨rfl,rfl,below_then PB0.out hb⟩
set_option maxHeartbeats 4000000 in
theorem followP1 {rb n:Nat} {has:Int->Bool} {F:Int} {M:Int->Int} (T ad cd p0 p1 p2 p3:Int) (pe:List PanicEntry) (A0 X0 f0:Int) (y00 y01 y02 y03 y04 y05 y06 y07:Bool)
 (l0:Hid (∀ w:World,Rd w rb has F M n->Calls Tryd.prog 76 #[.pointer (some ⟨rb,0,none⟩),.int .i64 T,.int .i64 p0,.int .i64 4,.agg #[.int .u64 ad,.int .i64 cd]] w fun e w'=>e=.returned (.agg (zW5a A0 X0 y00 y01 y02 y03 y04 y05 y06 y07 f0 4))/\Below w.heap.size w w'))
 (l1:Hid (∀ w:World,Rd w rb has F M n->Calls Tryd.prog 76 #[.pointer (some ⟨rb,0,none⟩),.int .i64 f0,.int .i64 p1,.int .i64 3,.agg #[.int .u64 ad,.int .i64 cd]] w fun e w'=>e=.panicked pe/\Below w.heap.size w w')) (w:World) (h:Rd w rb has F M n) :
 Calls Tryd.prog 51 #[.pointer (some ⟨rb,0,none⟩),.int .i64 T,.agg (zW5b p0 p1 p2 p3),.agg #[.int .u64 ad,.int .i64 cd]] w fun e w'=>e=.panicked pe/\Below w.heap.size w w':=by
 have g0:Hid (∀ w:World,Calls Tryd.prog 77 #[.agg (zW5a A0 X0 y00 y01 y02 y03 y04 y05 y06 y07 f0 4)] w fun e w'=>e=.returned (.bool false)/\Below w.heap.size w w'):=fun w=>large_any A0 X0 f0 4 y00 y01 y02 y03 y04 y05 y06 y07 w
 obtain ⟨i0,hi,hz0,hz1,hz2⟩:=info5 step_info5
 obtain ⟨Z,hZ,mk⟩:=make_steps
 have H:Hid (Rd w rb has F M n):=h
 have i0':=idx4_0
 have i1':=idx4_1
 have i2':=idx4_2
 have i3':=idx4_3
 have MX0:Hid (0+1<=maxLen):=by show _<=_;unfold maxLen;decide
 have MX1:Hid (1+1<=maxLen):=by show _<=_;unfold maxLen;decide
 have MX2:Hid (2+1<=maxLen):=by show _<=_;unfold maxLen;decide
 have MX3:Hid (3+1<=maxLen):=by show _<=_;unfold maxLen;decide
 have PB0:Hid (Below w.heap.size w (((w.alloc (.cells (zW5b p0 p1 p2 p3) 120)).alloc (.cells #[.int .u64 ad,.int .i64 cd] 58)).alloc (.cells Z 131))):=Go.Joins.below_alloc3 _ _ _ _
 have PZ0:Hid (w.heap.size+1<(((w.alloc (.cells (zW5b p0 p1 p2 p3) 120)).alloc (.cells #[.int .u64 ad,.int .i64 cd] 58)).alloc (.cells Z 131)).heap.size):=by show _<_;simp
 have PM0:Hid ((((w.alloc (.cells (zW5b p0 p1 p2 p3) 120)).alloc (.cells #[.int .u64 ad,.int .i64 cd] 58)).alloc (.cells Z 131)).cell? ⟨w.heap.size+1,0,none⟩=some (.int .u64 ad)/\(((w.alloc (.cells (zW5b p0 p1 p2 p3) 120)).alloc (.cells #[.int .u64 ad,.int .i64 cd] 58)).alloc (.cells Z 131)).cell? ⟨w.heap.size+1,1,none⟩=some (.int .i64 cd)):=⟨Go.Joins.cell_of_block (own3b w _ _ _) 0,Go.Joins.cell_of_block (own3b w _ _ _) 1⟩
 have PW0:Hid (Way (((w.alloc (.cells (zW5b p0 p1 p2 p3) 120)).alloc (.cells #[.int .u64 ad,.int .i64 cd] 58)).alloc (.cells Z 131)) (w.heap.size+2) (.slice (some ⟨w.heap.size+2,0,none⟩) 0 4) 0 ([]:List Value)):=by
  have:=Way.made ((w.alloc (.cells (zW5b p0 p1 p2 p3) 120)).alloc (.cells #[.int .u64 ad,.int .i64 cd] 58)) Z hZ
  rw [World.size_alloc,World.size_alloc] at this
  exact this
 clear h hZ
 go_enter Tryd.func51,Tryd.ntmps51
 go_wp2_with fail
 refine wp_loop_rounds 5 ?_
 rw [rounds_succ]
 go_wp2_with fail
 refine (l0.out _ (H.out.keep PB0.out)).mono ?_
 rintro e u0 ⟨rfl,hb⟩
 have zm:w.heap.size+1<u0.heap.size:=Nat.lt_of_lt_of_le PZ0.out hb.size
 have um0_0:u0.cell? ⟨w.heap.size+1,0,none⟩=some (.int .u64 ad):=cell_next hb PZ0.out PM0.out.1
 have um0_1:u0.cell? ⟨w.heap.size+1,1,none⟩=some (.int .i64 cd):=cell_next hb PZ0.out PM0.out.2
 have WU:Hid (Way u0 (w.heap.size+2) (.slice (some ⟨w.heap.size+2,0,none⟩) 0 4) 0 ([]:List Value)):=PW0.out.keep hb
 have BU:Hid (Below w.heap.size w u0):=below_then PB0.out hb
 have ZM:Hid (w.heap.size+1<u0.heap.size):=zm
 have MM:Hid (u0.cell? ⟨w.heap.size+1,0,none⟩=some (.int .u64 ad)/\u0.cell? ⟨w.heap.size+1,1,none⟩=some (.int .i64 cd)):=⟨um0_0,um0_1⟩
 clear hb zm um0_0 um0_1 PB0 PZ0 PM0 PW0
 have OW:Hid (((u0.alloc (.cells (zW5a A0 X0 y00 y01 y02 y03 y04 y05 y06 y07 f0 4) 131)).alloc (.cells (zW5a A0 X0 y00 y01 y02 y03 y04 y05 y06 y07 f0 4) 131)).ownsRow (w.heap.size+2) 131 12 (.slice (some ⟨w.heap.size+2,0,none⟩) 0 4) 0 ([]:List Value)):=(WU.out.keep (Go.Joins.below_alloc2 _ _ _)).1
 have NW:Hid (∀ j x,((zW5c A0 X0 y00 y01 y02 y03 y04 y05 y06 y07 f0 4):List Value)[j]? =some x->((u0.alloc (.cells (zW5a A0 X0 y00 y01 y02 y03 y04 y05 y06 y07 f0 4) 131)).alloc (.cells (zW5a A0 X0 y00 y01 y02 y03 y04 y05 y06 y07 f0 4) 131)).cell? ((⟨u0.heap.size+1,0,none⟩:Addr).add j)=some x):=news_cells u0 _ (zW5a A0 X0 y00 y01 y02 y03 y04 y05 y06 y07 f0 4) 131
 have ON:Hid (∀ x∈((zW5c A0 X0 y00 y01 y02 y03 y04 y05 y06 y07 f0 4):List Value),x.oneCell'=true):=by show ∀ x∈((zW5c A0 X0 y00 y01 y02 y03 y04 y05 y06 y07 f0 4):List Value),x.oneCell'=true;simp [Value.oneCell']
 have HZ:Hid (w.heap.size+2<=((u0.alloc (.cells (zW5a A0 X0 y00 y01 y02 y03 y04 y05 y06 y07 f0 4) 131)).alloc (.cells (zW5a A0 X0 y00 y01 y02 y03 y04 y05 y06 y07 f0 4) 131)).heap.size):=by show _<=_;rw [World.size_alloc,World.size_alloc];have:=ZM.out;omega
 go_wp2_with (at_builtin;refine wpList_append_own _ rfl _ _ 124 rfl (w.heap.size+2) 131 i0 zstep 12 40 Tryd.underlying124 hi hz0 hz1 hz2 rfl (by decide) (.slice (some ⟨w.heap.size+2,0,none⟩) 0 4) 0 ([]:List Value) rfl OW.out ⟨u0.heap.size+1,0,none⟩ 1 1 ((zW5c A0 X0 y00 y01 y02 y03 y04 y05 y06 y07 f0 4):List Value) rfl rfl NW.out ON.out MX0.out (by decide) HZ.out ?_;intro v1 a0 hown hg hnil;have WA:Hid (Way a0 (w.heap.size+2) v1 1 (([]:List Value)++((zW5c A0 X0 y00 y01 y02 y03 y04 y05 y06 y07 f0 4):List Value))):=Way.of_own hown (by omega);have BA:Hid (Below w.heap.size w a0):=(below_new2 BU.out _ _).grown hg (below_new2 BU.out _ _).size (fun j e=>by obtain ⟨g,h1,h2,h3⟩:=WU.out.own;rw [h1] at e;cases e;omega);have s0_0:a0.cell? ⟨u0.heap.size,0,none⟩=some (.int .u64 A0):=cell_grown hg (by rw [World.size_alloc,World.size_alloc];omega) (by obtain ⟨g,h1,h2,h3⟩:=WU.out.own;rw [h1];intro e;cases e;omega) (Go.Joins.cell_of_block (own2a u0 _ _) 0);have s0_1:a0.cell? ⟨u0.heap.size,1,none⟩=some (.int .u64 X0):=cell_grown hg (by rw [World.size_alloc,World.size_alloc];omega) (by obtain ⟨g,h1,h2,h3⟩:=WU.out.own;rw [h1];intro e;cases e;omega) (Go.Joins.cell_of_block (own2a u0 _ _) 1);have s0_2:a0.cell? ⟨u0.heap.size,2,none⟩=some (.bool y00):=cell_grown hg (by rw [World.size_alloc,World.size_alloc];omega) (by obtain ⟨g,h1,h2,h3⟩:=WU.out.own;rw [h1];intro e;cases e;omega) (Go.Joins.cell_of_block (own2a u0 _ _) 2);have s0_3:a0.cell? ⟨u0.heap.size,3,none⟩=some (.bool y01):=cell_grown hg (by rw [World.size_alloc,World.size_alloc];omega) (by obtain ⟨g,h1,h2,h3⟩:=WU.out.own;rw [h1];intro e;cases e;omega) (Go.Joins.cell_of_block (own2a u0 _ _) 3);have s0_4:a0.cell? ⟨u0.heap.size,4,none⟩=some (.bool y02):=cell_grown hg (by rw [World.size_alloc,World.size_alloc];omega) (by obtain ⟨g,h1,h2,h3⟩:=WU.out.own;rw [h1];intro e;cases e;omega) (Go.Joins.cell_of_block (own2a u0 _ _) 4);have s0_5:a0.cell? ⟨u0.heap.size,5,none⟩=some (.bool y03):=cell_grown hg (by rw [World.size_alloc,World.size_alloc];omega) (by obtain ⟨g,h1,h2,h3⟩:=WU.out.own;rw [h1];intro e;cases e;omega) (Go.Joins.cell_of_block (own2a u0 _ _) 5);have s0_6:a0.cell? ⟨u0.heap.size,6,none⟩=some (.bool y04):=cell_grown hg (by rw [World.size_alloc,World.size_alloc];omega) (by obtain ⟨g,h1,h2,h3⟩:=WU.out.own;rw [h1];intro e;cases e;omega) (Go.Joins.cell_of_block (own2a u0 _ _) 6);have s0_7:a0.cell? ⟨u0.heap.size,7,none⟩=some (.bool y05):=cell_grown hg (by rw [World.size_alloc,World.size_alloc];omega) (by obtain ⟨g,h1,h2,h3⟩:=WU.out.own;rw [h1];intro e;cases e;omega) (Go.Joins.cell_of_block (own2a u0 _ _) 7);have s0_8:a0.cell? ⟨u0.heap.size,8,none⟩=some (.bool y06):=cell_grown hg (by rw [World.size_alloc,World.size_alloc];omega) (by obtain ⟨g,h1,h2,h3⟩:=WU.out.own;rw [h1];intro e;cases e;omega) (Go.Joins.cell_of_block (own2a u0 _ _) 8);have s0_9:a0.cell? ⟨u0.heap.size,9,none⟩=some (.bool y07):=cell_grown hg (by rw [World.size_alloc,World.size_alloc];omega) (by obtain ⟨g,h1,h2,h3⟩:=WU.out.own;rw [h1];intro e;cases e;omega) (Go.Joins.cell_of_block (own2a u0 _ _) 9);have s0_10:a0.cell? ⟨u0.heap.size,10,none⟩=some (.int .i64 f0):=cell_grown hg (by rw [World.size_alloc,World.size_alloc];omega) (by obtain ⟨g,h1,h2,h3⟩:=WU.out.own;rw [h1];intro e;cases e;omega) (Go.Joins.cell_of_block (own2a u0 _ _) 10);have s0_11:a0.cell? ⟨u0.heap.size,11,none⟩=some (.int .i64 4):=cell_grown hg (by rw [World.size_alloc,World.size_alloc];omega) (by obtain ⟨g,h1,h2,h3⟩:=WU.out.own;rw [h1];intro e;cases e;omega) (Go.Joins.cell_of_block (own2a u0 _ _) 11);have SZ:u0.heap.size<a0.heap.size:=Nat.lt_of_lt_of_le (by rw [World.size_alloc,World.size_alloc];omega) hg.size;have am0_0:a0.cell? ⟨w.heap.size+1,0,none⟩=some (.int .u64 ad):=cell_grown hg (by rw [World.size_alloc,World.size_alloc];have:=ZM.out;omega) (by obtain ⟨g,h1,h2,h3⟩:=WU.out.own;rw [h1];intro e;cases e;omega) ((cell_old2 ZM.out _ _).trans MM.out.1);have am0_1:a0.cell? ⟨w.heap.size+1,1,none⟩=some (.int .i64 cd):=cell_grown hg (by rw [World.size_alloc,World.size_alloc];have:=ZM.out;omega) (by obtain ⟨g,h1,h2,h3⟩:=WU.out.own;rw [h1];intro e;cases e;omega) ((cell_old2 ZM.out _ _).trans MM.out.2);have AZ:Hid (w.heap.size+1<a0.heap.size):=Nat.lt_trans ZM.out SZ;have AS:Hid (u0.heap.size<a0.heap.size):=SZ;have AM:Hid (a0.cell? ⟨w.heap.size+1,0,none⟩=some (.int .u64 ad)/\a0.cell? ⟨w.heap.size+1,1,none⟩=some (.int .i64 cd)):=⟨am0_0,am0_1⟩;clear hown hg hnil OW NW ON HZ am0_0 am0_1 WU BU MM ZM SZ)
 refine (g0.out _).mono ?_
 rintro e b0 ⟨rfl,hb⟩
 have t0_10:b0.cell? ⟨u0.heap.size,10,none⟩=some (.int .i64 f0):=cell_next hb AS.out s0_10
 have pm1_0:b0.cell? ⟨w.heap.size+1,0,none⟩=some (.int .u64 ad):=cell_next hb AZ.out AM.out.1
 have pm1_1:b0.cell? ⟨w.heap.size+1,1,none⟩=some (.int .i64 cd):=cell_next hb AZ.out AM.out.2
 have PB1:Hid (Below w.heap.size w b0):=below_then BA.out hb
 have PZ1:Hid (w.heap.size+1<b0.heap.size):=Nat.lt_of_lt_of_le AZ.out hb.size
 have PM1:Hid (b0.cell? ⟨w.heap.size+1,0,none⟩=some (.int .u64 ad)/\b0.cell? ⟨w.heap.size+1,1,none⟩=some (.int .i64 cd)):=⟨pm1_0,pm1_1⟩
 have PW1:Hid (Way b0 (w.heap.size+2) v1 1 (([]:List Value)++((zW5c A0 X0 y00 y01 y02 y03 y04 y05 y06 y07 f0 4):List Value))):=WA.out.keep hb
 clear hb WA BA AM AZ AS s0_0 s0_1 s0_2 s0_3 s0_4 s0_5 s0_6 s0_7 s0_8 s0_9 s0_10 s0_11
 go_wp2_with fail
 rw [rounds_succ]
 go_wp2_with fail
 refine (l1.out _ (H.out.keep PB1.out)).mono ?_
 rintro e u1 ⟨rfl,hb⟩
 exact ⟨rfl,rfl,below_then PB1.out hb⟩
set_option maxHeartbeats 4000000 in
theorem followP2 {rb n:Nat} {has:Int->Bool} {F:Int} {M:Int->Int} (T ad cd p0 p1 p2 p3:Int) (pe:List PanicEntry) (A0 X0 f0:Int) (y00 y01 y02 y03 y04 y05 y06 y07:Bool) (A1 X1 f1:Int) (y10 y11 y12 y13 y14 y15 y16 y17:Bool)
 (l0:Hid (∀ w:World,Rd w rb has F M n->Calls Tryd.prog 76 #[.pointer (some ⟨rb,0,none⟩),.int .i64 T,.int .i64 p0,.int .i64 4,.agg #[.int .u64 ad,.int .i64 cd]] w fun e w'=>e=.returned (.agg (zW5a A0 X0 y00 y01 y02 y03 y04 y05 y06 y07 f0 4))/\Below w.heap.size w w'))
 (l1:Hid (∀ w:World,Rd w rb has F M n->Calls Tryd.prog 76 #[.pointer (some ⟨rb,0,none⟩),.int .i64 f0,.int .i64 p1,.int .i64 3,.agg #[.int .u64 ad,.int .i64 cd]] w fun e w'=>e=.returned (.agg (zW5a A1 X1 y10 y11 y12 y13 y14 y15 y16 y17 f1 3))/\Below w.heap.size w w'))
 (l2:Hid (∀ w:World,Rd w rb has F M n->Calls Tryd.prog 76 #[.pointer (some ⟨rb,0,none⟩),.int .i64 f1,.int .i64 p2,.int .i64 2,.agg #[.int .u64 ad,.int .i64 cd]] w fun e w'=>e=.panicked pe/\Below w.heap.size w w')) (w:World) (h:Rd w rb has F M n) :
 Calls Tryd.prog 51 #[.pointer (some ⟨rb,0,none⟩),.int .i64 T,.agg (zW5b p0 p1 p2 p3),.agg #[.int .u64 ad,.int .i64 cd]] w fun e w'=>e=.panicked pe/\Below w.heap.size w w':=by
 have g0:Hid (∀ w:World,Calls Tryd.prog 77 #[.agg (zW5a A0 X0 y00 y01 y02 y03 y04 y05 y06 y07 f0 4)] w fun e w'=>e=.returned (.bool false)/\Below w.heap.size w w'):=fun w=>large_any A0 X0 f0 4 y00 y01 y02 y03 y04 y05 y06 y07 w
 have g1:Hid (∀ w:World,Calls Tryd.prog 77 #[.agg (zW5a A1 X1 y10 y11 y12 y13 y14 y15 y16 y17 f1 3)] w fun e w'=>e=.returned (.bool false)/\Below w.heap.size w w'):=fun w=>large_any A1 X1 f1 3 y10 y11 y12 y13 y14 y15 y16 y17 w
 obtain ⟨i0,hi,hz0,hz1,hz2⟩:=info5 step_info5
 obtain ⟨Z,hZ,mk⟩:=make_steps
 have H:Hid (Rd w rb has F M n):=h
 have i0':=idx4_0
 have i1':=idx4_1
 have i2':=idx4_2
 have i3':=idx4_3
 have MX0:Hid (0+1<=maxLen):=by show _<=_;unfold maxLen;decide
 have MX1:Hid (1+1<=maxLen):=by show _<=_;unfold maxLen;decide
 have MX2:Hid (2+1<=maxLen):=by show _<=_;unfold maxLen;decide
 have MX3:Hid (3+1<=maxLen):=by show _<=_;unfold maxLen;decide
 have PB0:Hid (Below w.heap.size w (((w.alloc (.cells (zW5b p0 p1 p2 p3) 120)).alloc (.cells #[.int .u64 ad,.int .i64 cd] 58)).alloc (.cells Z 131))):=Go.Joins.below_alloc3 _ _ _ _
 have PZ0:Hid (w.heap.size+1<(((w.alloc (.cells (zW5b p0 p1 p2 p3) 120)).alloc (.cells #[.int .u64 ad,.int .i64 cd] 58)).alloc (.cells Z 131)).heap.size):=by show _<_;simp
 have PM0:Hid ((((w.alloc (.cells (zW5b p0 p1 p2 p3) 120)).alloc (.cells #[.int .u64 ad,.int .i64 cd] 58)).alloc (.cells Z 131)).cell? ⟨w.heap.size+1,0,none⟩=some (.int .u64 ad)/\(((w.alloc (.cells (zW5b p0 p1 p2 p3) 120)).alloc (.cells #[.int .u64 ad,.int .i64 cd] 58)).alloc (.cells Z 131)).cell? ⟨w.heap.size+1,1,none⟩=some (.int .i64 cd)):=⟨Go.Joins.cell_of_block (own3b w _ _ _) 0,Go.Joins.cell_of_block (own3b w _ _ _) 1⟩
 have PW0:Hid (Way (((w.alloc (.cells (zW5b p0 p1 p2 p3) 120)).alloc (.cells #[.int .u64 ad,.int .i64 cd] 58)).alloc (.cells Z 131)) (w.heap.size+2) (.slice (some ⟨w.heap.size+2,0,none⟩) 0 4) 0 ([]:List Value)):=by
  have:=Way.made ((w.alloc (.cells (zW5b p0 p1 p2 p3) 120)).alloc (.cells #[.int .u64 ad,.int .i64 cd] 58)) Z hZ
  rw [World.size_alloc,World.size_alloc] at this
  exact this
 clear h hZ
 go_enter Tryd.func51,Tryd.ntmps51
 go_wp2_with fail
 refine wp_loop_rounds 5 ?_
 rw [rounds_succ]
 go_wp2_with fail
 refine (l0.out _ (H.out.keep PB0.out)).mono ?_
 rintro e u0 ⟨rfl,hb⟩
 have zm:w.heap.size+1<u0.heap.size:=Nat.lt_of_lt_of_le PZ0.out hb.size
 have um0_0:u0.cell? ⟨w.heap.size+1,0,none⟩=some (.int .u64 ad):=cell_next hb PZ0.out PM0.out.1
 have um0_1:u0.cell? ⟨w.heap.size+1,1,none⟩=some (.int .i64 cd):=cell_next hb PZ0.out PM0.out.2
 have WU:Hid (Way u0 (w.heap.size+2) (.slice (some ⟨w.heap.size+2,0,none⟩) 0 4) 0 ([]:List Value)):=PW0.out.keep hb
 have BU:Hid (Below w.heap.size w u0):=below_then PB0.out hb
 have ZM:Hid (w.heap.size+1<u0.heap.size):=zm
 have MM:Hid (u0.cell? ⟨w.heap.size+1,0,none⟩=some (.int .u64 ad)/\u0.cell? ⟨w.heap.size+1,1,none⟩=some (.int .i64 cd)):=⟨um0_0,um0_1⟩
 clear hb zm um0_0 um0_1 PB0 PZ0 PM0 PW0
 have OW:Hid (((u0.alloc (.cells (zW5a A0 X0 y00 y01 y02 y03 y04 y05 y06 y07 f0 4) 131)).alloc (.cells (zW5a A0 X0 y00 y01 y02 y03 y04 y05 y06 y07 f0 4) 131)).ownsRow (w.heap.size+2) 131 12 (.slice (some ⟨w.heap.size+2,0,none⟩) 0 4) 0 ([]:List Value)):=(WU.out.keep (Go.Joins.below_alloc2 _ _ _)).1
 have NW:Hid (∀ j x,((zW5c A0 X0 y00 y01 y02 y03 y04 y05 y06 y07 f0 4):List Value)[j]? =some x->((u0.alloc (.cells (zW5a A0 X0 y00 y01 y02 y03 y04 y05 y06 y07 f0 4) 131)).alloc (.cells (zW5a A0 X0 y00 y01 y02 y03 y04 y05 y06 y07 f0 4) 131)).cell? ((⟨u0.heap.size+1,0,none⟩:Addr).add j)=some x):=news_cells u0 _ (zW5a A0 X0 y00 y01 y02 y03 y04 y05 y06 y07 f0 4) 131
 have ON:Hid (∀ x∈((zW5c A0 X0 y00 y01 y02 y03 y04 y05 y06 y07 f0 4):List Value),x.oneCell'=true):=by show ∀ x∈((zW5c A0 X0 y00 y01 y02 y03 y04 y05 y06 y07 f0 4):List Value),x.oneCell'=true;simp [Value.oneCell']
 have HZ:Hid (w.heap.size+2<=((u0.alloc (.cells (zW5a A0 X0 y00 y01 y02 y03 y04 y05 y06 y07 f0 4) 131)).alloc (.cells (zW5a A0 X0 y00 y01 y02 y03 y04 y05 y06 y07 f0 4) 131)).heap.size):=by show _<=_;rw [World.size_alloc,World.size_alloc];have:=ZM.out;omega
 go_wp2_with (at_builtin;refine wpList_append_own _ rfl _ _ 124 rfl (w.heap.size+2) 131 i0 zstep 12 40 Tryd.underlying124 hi hz0 hz1 hz2 rfl (by decide) (.slice (some ⟨w.heap.size+2,0,none⟩) 0 4) 0 ([]:List Value) rfl OW.out ⟨u0.heap.size+1,0,none⟩ 1 1 ((zW5c A0 X0 y00 y01 y02 y03 y04 y05 y06 y07 f0 4):List Value) rfl rfl NW.out ON.out MX0.out (by decide) HZ.out ?_;intro v1 a0 hown hg hnil;have WA:Hid (Way a0 (w.heap.size+2) v1 1 (([]:List Value)++((zW5c A0 X0 y00 y01 y02 y03 y04 y05 y06 y07 f0 4):List Value))):=Way.of_own hown (by omega);have BA:Hid (Below w.heap.size w a0):=(below_new2 BU.out _ _).grown hg (below_new2 BU.out _ _).size (fun j e=>by obtain ⟨g,h1,h2,h3⟩:=WU.out.own;rw [h1] at e;cases e;omega);have s0_0:a0.cell? ⟨u0.heap.size,0,none⟩=some (.int .u64 A0):=cell_grown hg (by rw [World.size_alloc,World.size_alloc];omega) (by obtain ⟨g,h1,h2,h3⟩:=WU.out.own;rw [h1];intro e;cases e;omega) (Go.Joins.cell_of_block (own2a u0 _ _) 0);have s0_1:a0.cell? ⟨u0.heap.size,1,none⟩=some (.int .u64 X0):=cell_grown hg (by rw [World.size_alloc,World.size_alloc];omega) (by obtain ⟨g,h1,h2,h3⟩:=WU.out.own;rw [h1];intro e;cases e;omega) (Go.Joins.cell_of_block (own2a u0 _ _) 1);have s0_2:a0.cell? ⟨u0.heap.size,2,none⟩=some (.bool y00):=cell_grown hg (by rw [World.size_alloc,World.size_alloc];omega) (by obtain ⟨g,h1,h2,h3⟩:=WU.out.own;rw [h1];intro e;cases e;omega) (Go.Joins.cell_of_block (own2a u0 _ _) 2);have s0_3:a0.cell? ⟨u0.heap.size,3,none⟩=some (.bool y01):=cell_grown hg (by rw [World.size_alloc,World.size_alloc];omega) (by obtain ⟨g,h1,h2,h3⟩:=WU.out.own;rw [h1];intro e;cases e;omega) (Go.Joins.cell_of_block (own2a u0 _ _) 3);have s0_4:a0.cell? ⟨u0.heap.size,4,none⟩=some (.bool y02):=cell_grown hg (by rw [World.size_alloc,World.size_alloc];omega) (by obtain ⟨g,h1,h2,h3⟩:=WU.out.own;rw [h1];intro e;cases e;omega) (Go.Joins.cell_of_block (own2a u0 _ _) 4);have s0_5:a0.cell? ⟨u0.heap.size,5,none⟩=some (.bool y03):=cell_grown hg (by rw [World.size_alloc,World.size_alloc];omega) (by obtain ⟨g,h1,h2,h3⟩:=WU.out.own;rw [h1];intro e;cases e;omega) (Go.Joins.cell_of_block (own2a u0 _ _) 5);have s0_6:a0.cell? ⟨u0.heap.size,6,none⟩=some (.bool y04):=cell_grown hg (by rw [World.size_alloc,World.size_alloc];omega) (by obtain ⟨g,h1,h2,h3⟩:=WU.out.own;rw [h1];intro e;cases e;omega) (Go.Joins.cell_of_block (own2a u0 _ _) 6);have s0_7:a0.cell? ⟨u0.heap.size,7,none⟩=some (.bool y05):=cell_grown hg (by rw [World.size_alloc,World.size_alloc];omega) (by obtain ⟨g,h1,h2,h3⟩:=WU.out.own;rw [h1];intro e;cases e;omega) (Go.Joins.cell_of_block (own2a u0 _ _) 7);have s0_8:a0.cell? ⟨u0.heap.size,8,none⟩=some (.bool y06):=cell_grown hg (by rw [World.size_alloc,World.size_alloc];omega) (by obtain ⟨g,h1,h2,h3⟩:=WU.out.own;rw [h1];intro e;cases e;omega) (Go.Joins.cell_of_block (own2a u0 _ _) 8);have s0_9:a0.cell? ⟨u0.heap.size,9,none⟩=some (.bool y07):=cell_grown hg (by rw [World.size_alloc,World.size_alloc];omega) (by obtain ⟨g,h1,h2,h3⟩:=WU.out.own;rw [h1];intro e;cases e;omega) (Go.Joins.cell_of_block (own2a u0 _ _) 9);have s0_10:a0.cell? ⟨u0.heap.size,10,none⟩=some (.int .i64 f0):=cell_grown hg (by rw [World.size_alloc,World.size_alloc];omega) (by obtain ⟨g,h1,h2,h3⟩:=WU.out.own;rw [h1];intro e;cases e;omega) (Go.Joins.cell_of_block (own2a u0 _ _) 10);have s0_11:a0.cell? ⟨u0.heap.size,11,none⟩=some (.int .i64 4):=cell_grown hg (by rw [World.size_alloc,World.size_alloc];omega) (by obtain ⟨g,h1,h2,h3⟩:=WU.out.own;rw [h1];intro e;cases e;omega) (Go.Joins.cell_of_block (own2a u0 _ _) 11);have SZ:u0.heap.size<a0.heap.size:=Nat.lt_of_lt_of_le (by rw [World.size_alloc,World.size_alloc];omega) hg.size;have am0_0:a0.cell? ⟨w.heap.size+1,0,none⟩=some (.int .u64 ad):=cell_grown hg (by rw [World.size_alloc,World.size_alloc];have:=ZM.out;omega) (by obtain ⟨g,h1,h2,h3⟩:=WU.out.own;rw [h1];intro e;cases e;omega) ((cell_old2 ZM.out _ _).trans MM.out.1);have am0_1:a0.cell? ⟨w.heap.size+1,1,none⟩=some (.int .i64 cd):=cell_grown hg (by rw [World.size_alloc,World.size_alloc];have:=ZM.out;omega) (by obtain ⟨g,h1,h2,h3⟩:=WU.out.own;rw [h1];intro e;cases e;omega) ((cell_old2 ZM.out _ _).trans MM.out.2);have AZ:Hid (w.heap.size+1<a0.heap.size):=Nat.lt_trans ZM.out SZ;have AS:Hid (u0.heap.size<a0.heap.size):=SZ;have AM:Hid (a0.cell? ⟨w.heap.size+1,0,none⟩=some (.int .u64 ad)/\a0.cell? ⟨w.heap.size+1,1,none⟩=some (.int .i64 cd)):=⟨am0_0,am0_1⟩;clear hown hg hnil OW NW ON HZ am0_0 am0_1 WU BU MM ZM SZ)
 refine (g0.out _).mono ?_
 rintro e b0 ⟨rfl,hb⟩
 have t0_10:b0.cell? ⟨u0.heap.size,10,none⟩=some (.int .i64 f0):=cell_next hb AS.out s0_10
 have pm1_0:b0.cell? ⟨w.heap.size+1,0,none⟩=some (.int .u64 ad):=cell_next hb AZ.out AM.out.1
 have pm1_1:b0.cell? ⟨w.heap.size+1,1,none⟩=some (.int .i64 cd):=cell_next hb AZ.out AM.out.2
 have PB1:Hid (Below w.heap.size w b0):=below_then BA.out hb
 have PZ1:Hid (w.heap.size+1<b0.heap.size):=Nat.lt_of_lt_of_le AZ.out hb.size
 have PM1:Hid (b0.cell? ⟨w.heap.size+1,0,none⟩=some (.int .u64 ad)/\b0.cell? ⟨w.heap.size+1,1,none⟩=some (.int .i64 cd)):=⟨pm1_0,pm1_1⟩
 have PW1:Hid (Way b0 (w.heap.size+2) v1 1 (([]:List Value)++((zW5c A0 X0 y00 y01 y02 y03 y04 y05 y06 y07 f0 4):List Value))):=WA.out.keep hb
 clear hb WA BA AM AZ AS s0_0 s0_1 s0_2 s0_3 s0_4 s0_5 s0_6 s0_7 s0_8 s0_9 s0_10 s0_11
 go_wp2_with fail
 rw [rounds_succ]
 go_wp2_with fail
 refine (l1.out _ (H.out.keep PB1.out)).mono ?_
 rintro e u1 ⟨rfl,hb⟩
 have zm:w.heap.size+1<u1.heap.size:=Nat.lt_of_lt_of_le PZ1.out hb.size
 have um1_0:u1.cell? ⟨w.heap.size+1,0,none⟩=some (.int .u64 ad):=cell_next hb PZ1.out PM1.out.1
 have um1_1:u1.cell? ⟨w.heap.size+1,1,none⟩=some (.int .i64 cd):=cell_next hb PZ1.out PM1.out.2
 have WU:Hid (Way u1 (w.heap.size+2) v1 1 (([]:List Value)++((zW5c A0 X0 y00 y01 y02 y03 y04 y05 y06 y07 f0 4):List Value))):=PW1.out.keep hb
 have BU:Hid (Below w.heap.size w u1):=below_then PB1.out hb
 have ZM:Hid (w.heap.size+1<u1.heap.size):=zm
 have MM:Hid (u1.cell? ⟨w.heap.size+1,0,none⟩=some (.int .u64 ad)/\u1.cell? ⟨w.heap.size+1,1,none⟩=some (.int .i64 cd)):=⟨um1_0,um1_1⟩
 clear hb zm um1_0 um1_1 PB1 PZ1 PM1 PW1 pm1_0 pm1_1
 have OW:Hid (((u1.alloc (.cells (zW5a A1 X1 y10 y11 y12 y13 y14 y15 y16 y17 f1 3) 131)).alloc (.cells (zW5a A1 X1 y10 y11 y12 y13 y14 y15 y16 y17 f1 3) 131)).ownsRow (w.heap.size+2) 131 12 v1 1 (([]:List Value)++((zW5c A0 X0 y00 y01 y02 y03 y04 y05 y06 y07 f0 4):List Value))):=(WU.out.keep (Go.Joins.below_alloc2 _ _ _)).1
 have NW:Hid (∀ j x,((zW5c A1 X1 y10 y11 y12 y13 y14 y15 y16 y17 f1 3):List Value)[j]? =some x->((u1.alloc (.cells (zW5a A1 X1 y10 y11 y12 y13 y14 y15 y16 y17 f1 3) 131)).alloc (.cells (zW5a A1 X1 y10 y11 y12 y13 y14 y15 y16 y17 f1 3) 131)).cell? ((⟨u1.heap.size+1,0,none⟩:Addr).add j)=some x):=news_cells u1 _ (zW5a A1 X1 y10 y11 y12 y13 y14 y15 y16 y17 f1 3) 131
 have ON:Hid (∀ x∈((zW5c A1 X1 y10 y11 y12 y13 y14 y15 y16 y17 f1 3):List Value),x.oneCell'=true):=by show ∀ x∈((zW5c A1 X1 y10 y11 y12 y13 y14 y15 y16 y17 f1 3):List Value),x.oneCell'=true;simp [Value.oneCell']
 have HZ:Hid (w.heap.size+2<=((u1.alloc (.cells (zW5a A1 X1 y10 y11 y12 y13 y14 y15 y16 y17 f1 3) 131)).alloc (.cells (zW5a A1 X1 y10 y11 y12 y13 y14 y15 y16 y17 f1 3) 131)).heap.size):=by show _<=_;rw [World.size_alloc,World.size_alloc];have:=ZM.out;omega
 go_wp2_with (at_builtin;refine wpList_append_own _ rfl _ _ 124 rfl (w.heap.size+2) 131 i0 zstep 12 40 Tryd.underlying124 hi hz0 hz1 hz2 rfl (by decide) v1 1 (([]:List Value)++((zW5c A0 X0 y00 y01 y02 y03 y04 y05 y06 y07 f0 4):List Value)) rfl OW.out ⟨u1.heap.size+1,0,none⟩ 1 1 ((zW5c A1 X1 y10 y11 y12 y13 y14 y15 y16 y17 f1 3):List Value) rfl rfl NW.out ON.out MX1.out (by decide) HZ.out ?_;intro v2 a1 hown hg hnil;have WA:Hid (Way a1 (w.heap.size+2) v2 2 ((([]:List Value)++((zW5c A0 X0 y00 y01 y02 y03 y04 y05 y06 y07 f0 4):List Value))++((zW5c A1 X1 y10 y11 y12 y13 y14 y15 y16 y17 f1 3):List Value))):=Way.of_own hown (by omega);have BA:Hid (Below w.heap.size w a1):=(below_new2 BU.out _ _).grown hg (below_new2 BU.out _ _).size (fun j e=>by obtain ⟨g,h1,h2,h3⟩:=WU.out.own;rw [h1] at e;cases e;omega);have s1_0:a1.cell? ⟨u1.heap.size,0,none⟩=some (.int .u64 A1):=cell_grown hg (by rw [World.size_alloc,World.size_alloc];omega) (by obtain ⟨g,h1,h2,h3⟩:=WU.out.own;rw [h1];intro e;cases e;omega) (Go.Joins.cell_of_block (own2a u1 _ _) 0);have s1_1:a1.cell? ⟨u1.heap.size,1,none⟩=some (.int .u64 X1):=cell_grown hg (by rw [World.size_alloc,World.size_alloc];omega) (by obtain ⟨g,h1,h2,h3⟩:=WU.out.own;rw [h1];intro e;cases e;omega) (Go.Joins.cell_of_block (own2a u1 _ _) 1);have s1_2:a1.cell? ⟨u1.heap.size,2,none⟩=some (.bool y10):=cell_grown hg (by rw [World.size_alloc,World.size_alloc];omega) (by obtain ⟨g,h1,h2,h3⟩:=WU.out.own;rw [h1];intro e;cases e;omega) (Go.Joins.cell_of_block (own2a u1 _ _) 2);have s1_3:a1.cell? ⟨u1.heap.size,3,none⟩=some (.bool y11):=cell_grown hg (by rw [World.size_alloc,World.size_alloc];omega) (by obtain ⟨g,h1,h2,h3⟩:=WU.out.own;rw [h1];intro e;cases e;omega) (Go.Joins.cell_of_block (own2a u1 _ _) 3);have s1_4:a1.cell? ⟨u1.heap.size,4,none⟩=some (.bool y12):=cell_grown hg (by rw [World.size_alloc,World.size_alloc];omega) (by obtain ⟨g,h1,h2,h3⟩:=WU.out.own;rw [h1];intro e;cases e;omega) (Go.Joins.cell_of_block (own2a u1 _ _) 4);have s1_5:a1.cell? ⟨u1.heap.size,5,none⟩=some (.bool y13):=cell_grown hg (by rw [World.size_alloc,World.size_alloc];omega) (by obtain ⟨g,h1,h2,h3⟩:=WU.out.own;rw [h1];intro e;cases e;omega) (Go.Joins.cell_of_block (own2a u1 _ _) 5);have s1_6:a1.cell? ⟨u1.heap.size,6,none⟩=some (.bool y14):=cell_grown hg (by rw [World.size_alloc,World.size_alloc];omega) (by obtain ⟨g,h1,h2,h3⟩:=WU.out.own;rw [h1];intro e;cases e;omega) (Go.Joins.cell_of_block (own2a u1 _ _) 6);have s1_7:a1.cell? ⟨u1.heap.size,7,none⟩=some (.bool y15):=cell_grown hg (by rw [World.size_alloc,World.size_alloc];omega) (by obtain ⟨g,h1,h2,h3⟩:=WU.out.own;rw [h1];intro e;cases e;omega) (Go.Joins.cell_of_block (own2a u1 _ _) 7);have s1_8:a1.cell? ⟨u1.heap.size,8,none⟩=some (.bool y16):=cell_grown hg (by rw [World.size_alloc,World.size_alloc];omega) (by obtain ⟨g,h1,h2,h3⟩:=WU.out.own;rw [h1];intro e;cases e;omega) (Go.Joins.cell_of_block (own2a u1 _ _) 8);have s1_9:a1.cell? ⟨u1.heap.size,9,none⟩=some (.bool y17):=cell_grown hg (by rw [World.size_alloc,World.size_alloc];omega) (by obtain ⟨g,h1,h2,h3⟩:=WU.out.own;rw [h1];intro e;cases e;omega) (Go.Joins.cell_of_block (own2a u1 _ _) 9);have s1_10:a1.cell? ⟨u1.heap.size,10,none⟩=some (.int .i64 f1):=cell_grown hg (by rw [World.size_alloc,World.size_alloc];omega) (by obtain ⟨g,h1,h2,h3⟩:=WU.out.own;rw [h1];intro e;cases e;omega) (Go.Joins.cell_of_block (own2a u1 _ _) 10);have s1_11:a1.cell? ⟨u1.heap.size,11,none⟩=some (.int .i64 3):=cell_grown hg (by rw [World.size_alloc,World.size_alloc];omega) (by obtain ⟨g,h1,h2,h3⟩:=WU.out.own;rw [h1];intro e;cases e;omega) (Go.Joins.cell_of_block (own2a u1 _ _) 11);have SZ:u1.heap.size<a1.heap.size:=Nat.lt_of_lt_of_le (by rw [World.size_alloc,World.size_alloc];omega) hg.size;have am1_0:a1.cell? ⟨w.heap.size+1,0,none⟩=some (.int .u64 ad):=cell_grown hg (by rw [World.size_alloc,World.size_alloc];have:=ZM.out;omega) (by obtain ⟨g,h1,h2,h3⟩:=WU.out.own;rw [h1];intro e;cases e;omega) ((cell_old2 ZM.out _ _).trans MM.out.1);have am1_1:a1.cell? ⟨w.heap.size+1,1,none⟩=some (.int .i64 cd):=cell_grown hg (by rw [World.size_alloc,World.size_alloc];have:=ZM.out;omega) (by obtain ⟨g,h1,h2,h3⟩:=WU.out.own;rw [h1];intro e;cases e;omega) ((cell_old2 ZM.out _ _).trans MM.out.2);have AZ:Hid (w.heap.size+1<a1.heap.size):=Nat.lt_trans ZM.out SZ;have AS:Hid (u1.heap.size<a1.heap.size):=SZ;have AM:Hid (a1.cell? ⟨w.heap.size+1,0,none⟩=some (.int .u64 ad)/\a1.cell? ⟨w.heap.size+1,1,none⟩=some (.int .i64 cd)):=⟨am1_0,am1_1⟩;clear hown hg hnil OW NW ON HZ am1_0 am1_1 WU BU MM ZM SZ)
 refine (g1.out _).mono ?_
 rintro e b1 ⟨rfl,hb⟩
 have t1_10:b1.cell? ⟨u1.heap.size,10,none⟩=some (.int .i64 f1):=cell_next hb AS.out s1_10
 have pm2_0:b1.cell? ⟨w.heap.size+1,0,none⟩=some (.int .u64 ad):=cell_next hb AZ.out AM.out.1
 have pm2_1:b1.cell? ⟨w.heap.size+1,1,none⟩=some (.int .i64 cd):=cell_next hb AZ.out AM.out.2
 have PB2:Hid (Below w.heap.size w b1):=below_then BA.out hb
 have PZ2:Hid (w.heap.size+1<b1.heap.size):=Nat.lt_of_lt_of_le AZ.out hb.size
 have PM2:Hid (b1.cell? ⟨w.heap.size+1,0,none⟩=some (.int .u64 ad)/\b1.cell? ⟨w.heap.size+1,1,none⟩=some (.int .i64 cd)):=⟨pm2_0,pm2_1⟩
 have PW2:Hid (Way b1 (w.heap.size+2) v2 2 ((([]:List Value)++((zW5c A0 X0 y00 y01 y02 y03 y04 y05 y06 y07 f0 4):List Value))++((zW5c A1 X1 y10 y11 y12 y13 y14 y15 y16 y17 f1 3):List Value))):=WA.out.keep hb
 clear hb WA BA AM AZ AS s1_0 s1_1 s1_2 s1_3 s1_4 s1_5 s1_6 s1_7 s1_8 s1_9 s1_10 s1_11
 go_wp2_with fail
 rw [rounds_succ]
 go_wp2_with fail
 refine (l2.out _ (H.out.keep PB2.out)).mono ?_
 rintro e u2 ⟨rfl,hb⟩
 exact ⟨rfl,rfl,below_then PB2.out hb⟩
set_option maxHeartbeats 4000000 in
theorem followP3 {rb n:Nat} {has:Int->Bool} {F:Int} {M:Int->Int} (T ad cd p0 p1 p2 p3:Int) (pe:List PanicEntry) (A0 X0 f0:Int) (y00 y01 y02 y03 y04 y05 y06 y07:Bool) (A1 X1 f1:Int) (y10 y11 y12 y13 y14 y15 y16 y17:Bool) (A2 X2 f2:Int) (y20 y21 y22 y23 y24 y26 y27:Bool)
 (l0:Hid (∀ w:World,Rd w rb has F M n->Calls Tryd.prog 76 #[.pointer (some ⟨rb,0,none⟩),.int .i64 T,.int .i64 p0,.int .i64 4,.agg #[.int .u64 ad,.int .i64 cd]] w fun e w'=>e=.returned (.agg (zW5a A0 X0 y00 y01 y02 y03 y04 y05 y06 y07 f0 4))/\Below w.heap.size w w'))
 (l1:Hid (∀ w:World,Rd w rb has F M n->Calls Tryd.prog 76 #[.pointer (some ⟨rb,0,none⟩),.int .i64 f0,.int .i64 p1,.int .i64 3,.agg #[.int .u64 ad,.int .i64 cd]] w fun e w'=>e=.returned (.agg (zW5a A1 X1 y10 y11 y12 y13 y14 y15 y16 y17 f1 3))/\Below w.heap.size w w'))
 (l2:Hid (∀ w:World,Rd w rb has F M n->Calls Tryd.prog 76 #[.pointer (some ⟨rb,0,none⟩),.int .i64 f1,.int .i64 p2,.int .i64 2,.agg #[.int .u64 ad,.int .i64 cd]] w fun e w'=>e=.returned (.agg (zW5a A2 X2 y20 y21 y22 y23 y24 false y26 y27 f2 2))/\Below w.heap.size w w'))
 (l3:Hid (∀ w:World,Rd w rb has F M n->Calls Tryd.prog 76 #[.pointer (some ⟨rb,0,none⟩),.int .i64 f2,.int .i64 p3,.int .i64 1,.agg #[.int .u64 ad,.int .i64 cd]] w fun e w'=>e=.panicked pe/\Below w.heap.size w w')) (w:World) (h:Rd w rb has F M n) :
 Calls Tryd.prog 51 #[.pointer (some ⟨rb,0,none⟩),.int .i64 T,.agg (zW5b p0 p1 p2 p3),.agg #[.int .u64 ad,.int .i64 cd]] w fun e w'=>e=.panicked pe/\Below w.heap.size w w':=by
 have g0:Hid (∀ w:World,Calls Tryd.prog 77 #[.agg (zW5a A0 X0 y00 y01 y02 y03 y04 y05 y06 y07 f0 4)] w fun e w'=>e=.returned (.bool false)/\Below w.heap.size w w'):=fun w=>large_any A0 X0 f0 4 y00 y01 y02 y03 y04 y05 y06 y07 w
 have g1:Hid (∀ w:World,Calls Tryd.prog 77 #[.agg (zW5a A1 X1 y10 y11 y12 y13 y14 y15 y16 y17 f1 3)] w fun e w'=>e=.returned (.bool false)/\Below w.heap.size w w'):=fun w=>large_any A1 X1 f1 3 y10 y11 y12 y13 y14 y15 y16 y17 w
 have g2:Hid (∀ w:World,Calls Tryd.prog 77 #[.agg (zW5a A2 X2 y20 y21 y22 y23 y24 false y26 y27 f2 2)] w fun e w'=>e=.returned (.bool false)/\Below w.heap.size w w'):=fun w=>large_any A2 X2 f2 2 y20 y21 y22 y23 y24 false y26 y27 w
 obtain ⟨i0,hi,hz0,hz1,hz2⟩:=info5 step_info5
 obtain ⟨Z,hZ,mk⟩:=make_steps
 have H:Hid (Rd w rb has F M n):=h
 have i0':=idx4_0
 have i1':=idx4_1
 have i2':=idx4_2
 have i3':=idx4_3
 have MX0:Hid (0+1<=maxLen):=by show _<=_;unfold maxLen;decide
 have MX1:Hid (1+1<=maxLen):=by show _<=_;unfold maxLen;decide
 have MX2:Hid (2+1<=maxLen):=by show _<=_;unfold maxLen;decide
 have MX3:Hid (3+1<=maxLen):=by show _<=_;unfold maxLen;decide
 have PB0:Hid (Below w.heap.size w (((w.alloc (.cells (zW5b p0 p1 p2 p3) 120)).alloc (.cells #[.int .u64 ad,.int .i64 cd] 58)).alloc (.cells Z 131))):=Go.Joins.below_alloc3 _ _ _ _
 have PZ0:Hid (w.heap.size+1<(((w.alloc (.cells (zW5b p0 p1 p2 p3) 120)).alloc (.cells #[.int .u64 ad,.int .i64 cd] 58)).alloc (.cells Z 131)).heap.size):=by show _<_;simp
 have PM0:Hid ((((w.alloc (.cells (zW5b p0 p1 p2 p3) 120)).alloc (.cells #[.int .u64 ad,.int .i64 cd] 58)).alloc (.cells Z 131)).cell? ⟨w.heap.size+1,0,none⟩=some (.int .u64 ad)/\(((w.alloc (.cells (zW5b p0 p1 p2 p3) 120)).alloc (.cells #[.int .u64 ad,.int .i64 cd] 58)).alloc (.cells Z 131)).cell? ⟨w.heap.size+1,1,none⟩=some (.int .i64 cd)):=⟨Go.Joins.cell_of_block (own3b w _ _ _) 0,Go.Joins.cell_of_block (own3b w _ _ _) 1⟩
 have PW0:Hid (Way (((w.alloc (.cells (zW5b p0 p1 p2 p3) 120)).alloc (.cells #[.int .u64 ad,.int .i64 cd] 58)).alloc (.cells Z 131)) (w.heap.size+2) (.slice (some ⟨w.heap.size+2,0,none⟩) 0 4) 0 ([]:List Value)):=by
  have:=Way.made ((w.alloc (.cells (zW5b p0 p1 p2 p3) 120)).alloc (.cells #[.int .u64 ad,.int .i64 cd] 58)) Z hZ
  rw [World.size_alloc,World.size_alloc] at this
  exact this
 clear h hZ
 go_enter Tryd.func51,Tryd.ntmps51
 go_wp2_with fail
 refine wp_loop_rounds 5 ?_
 rw [rounds_succ]
 go_wp2_with fail
 refine (l0.out _ (H.out.keep PB0.out)).mono ?_
 rintro e u0 ⟨rfl,hb⟩
 have zm:w.heap.size+1<u0.heap.size:=Nat.lt_of_lt_of_le PZ0.out hb.size
 have um0_0:u0.cell? ⟨w.heap.size+1,0,none⟩=some (.int .u64 ad):=cell_next hb PZ0.out PM0.out.1
 have um0_1:u0.cell? ⟨w.heap.size+1,1,none⟩=some (.int .i64 cd):=cell_next hb PZ0.out PM0.out.2
 have WU:Hid (Way u0 (w.heap.size+2) (.slice (some ⟨w.heap.size+2,0,none⟩) 0 4) 0 ([]:List Value)):=PW0.out.keep hb
 have BU:Hid (Below w.heap.size w u0):=below_then PB0.out hb
 have ZM:Hid (w.heap.size+1<u0.heap.size):=zm
 have MM:Hid (u0.cell? ⟨w.heap.size+1,0,none⟩=some (.int .u64 ad)/\u0.cell? ⟨w.heap.size+1,1,none⟩=some (.int .i64 cd)):=⟨um0_0,um0_1⟩
 clear hb zm um0_0 um0_1 PB0 PZ0 PM0 PW0
 have OW:Hid (((u0.alloc (.cells (zW5a A0 X0 y00 y01 y02 y03 y04 y05 y06 y07 f0 4) 131)).alloc (.cells (zW5a A0 X0 y00 y01 y02 y03 y04 y05 y06 y07 f0 4) 131)).ownsRow (w.heap.size+2) 131 12 (.slice (some ⟨w.heap.size+2,0,none⟩) 0 4) 0 ([]:List Value)):=(WU.out.keep (Go.Joins.below_alloc2 _ _ _)).1
 have NW:Hid (∀ j x,((zW5c A0 X0 y00 y01 y02 y03 y04 y05 y06 y07 f0 4):List Value)[j]? =some x->((u0.alloc (.cells (zW5a A0 X0 y00 y01 y02 y03 y04 y05 y06 y07 f0 4) 131)).alloc (.cells (zW5a A0 X0 y00 y01 y02 y03 y04 y05 y06 y07 f0 4) 131)).cell? ((⟨u0.heap.size+1,0,none⟩:Addr).add j)=some x):=news_cells u0 _ (zW5a A0 X0 y00 y01 y02 y03 y04 y05 y06 y07 f0 4) 131
 have ON:Hid (∀ x∈((zW5c A0 X0 y00 y01 y02 y03 y04 y05 y06 y07 f0 4):List Value),x.oneCell'=true):=by show ∀ x∈((zW5c A0 X0 y00 y01 y02 y03 y04 y05 y06 y07 f0 4):List Value),x.oneCell'=true;simp [Value.oneCell']
 have HZ:Hid (w.heap.size+2<=((u0.alloc (.cells (zW5a A0 X0 y00 y01 y02 y03 y04 y05 y06 y07 f0 4) 131)).alloc (.cells (zW5a A0 X0 y00 y01 y02 y03 y04 y05 y06 y07 f0 4) 131)).heap.size):=by show _<=_;rw [World.size_alloc,World.size_alloc];have:=ZM.out;omega
 go_wp2_with (at_builtin;refine wpList_append_own _ rfl _ _ 124 rfl (w.heap.size+2) 131 i0 zstep 12 40 Tryd.underlying124 hi hz0 hz1 hz2 rfl (by decide) (.slice (some ⟨w.heap.size+2,0,none⟩) 0 4) 0 ([]:List Value) rfl OW.out ⟨u0.heap.size+1,0,none⟩ 1 1 ((zW5c A0 X0 y00 y01 y02 y03 y04 y05 y06 y07 f0 4):List Value) rfl rfl NW.out ON.out MX0.out (by decide) HZ.out ?_;intro v1 a0 hown hg hnil;have WA:Hid (Way a0 (w.heap.size+2) v1 1 (([]:List Value)++((zW5c A0 X0 y00 y01 y02 y03 y04 y05 y06 y07 f0 4):List Value))):=Way.of_own hown (by omega);have BA:Hid (Below w.heap.size w a0):=(below_new2 BU.out _ _).grown hg (below_new2 BU.out _ _).size (fun j e=>by obtain ⟨g,h1,h2,h3⟩:=WU.out.own;rw [h1] at e;cases e;omega);have s0_0:a0.cell? ⟨u0.heap.size,0,none⟩=some (.int .u64 A0):=cell_grown hg (by rw [World.size_alloc,World.size_alloc];omega) (by obtain ⟨g,h1,h2,h3⟩:=WU.out.own;rw [h1];intro e;cases e;omega) (Go.Joins.cell_of_block (own2a u0 _ _) 0);have s0_1:a0.cell? ⟨u0.heap.size,1,none⟩=some (.int .u64 X0):=cell_grown hg (by rw [World.size_alloc,World.size_alloc];omega) (by obtain ⟨g,h1,h2,h3⟩:=WU.out.own;rw [h1];intro e;cases e;omega) (Go.Joins.cell_of_block (own2a u0 _ _) 1);have s0_2:a0.cell? ⟨u0.heap.size,2,none⟩=some (.bool y00):=cell_grown hg (by rw [World.size_alloc,World.size_alloc];omega) (by obtain ⟨g,h1,h2,h3⟩:=WU.out.own;rw [h1];intro e;cases e;omega) (Go.Joins.cell_of_block (own2a u0 _ _) 2);have s0_3:a0.cell? ⟨u0.heap.size,3,none⟩=some (.bool y01):=cell_grown hg (by rw [World.size_alloc,World.size_alloc];omega) (by obtain ⟨g,h1,h2,h3⟩:=WU.out.own;rw [h1];intro e;cases e;omega) (Go.Joins.cell_of_block (own2a u0 _ _) 3);have s0_4:a0.cell? ⟨u0.heap.size,4,none⟩=some (.bool y02):=cell_grown hg (by rw [World.size_alloc,World.size_alloc];omega) (by obtain ⟨g,h1,h2,h3⟩:=WU.out.own;rw [h1];intro e;cases e;omega) (Go.Joins.cell_of_block (own2a u0 _ _) 4);have s0_5:a0.cell? ⟨u0.heap.size,5,none⟩=some (.bool y03):=cell_grown hg (by rw [World.size_alloc,World.size_alloc];omega) (by obtain ⟨g,h1,h2,h3⟩:=WU.out.own;rw [h1];intro e;cases e;omega) (Go.Joins.cell_of_block (own2a u0 _ _) 5);have s0_6:a0.cell? ⟨u0.heap.size,6,none⟩=some (.bool y04):=cell_grown hg (by rw [World.size_alloc,World.size_alloc];omega) (by obtain ⟨g,h1,h2,h3⟩:=WU.out.own;rw [h1];intro e;cases e;omega) (Go.Joins.cell_of_block (own2a u0 _ _) 6);have s0_7:a0.cell? ⟨u0.heap.size,7,none⟩=some (.bool y05):=cell_grown hg (by rw [World.size_alloc,World.size_alloc];omega) (by obtain ⟨g,h1,h2,h3⟩:=WU.out.own;rw [h1];intro e;cases e;omega) (Go.Joins.cell_of_block (own2a u0 _ _) 7);have s0_8:a0.cell? ⟨u0.heap.size,8,none⟩=some (.bool y06):=cell_grown hg (by rw [World.size_alloc,World.size_alloc];omega) (by obtain ⟨g,h1,h2,h3⟩:=WU.out.own;rw [h1];intro e;cases e;omega) (Go.Joins.cell_of_block (own2a u0 _ _) 8);have s0_9:a0.cell? ⟨u0.heap.size,9,none⟩=some (.bool y07):=cell_grown hg (by rw [World.size_alloc,World.size_alloc];omega) (by obtain ⟨g,h1,h2,h3⟩:=WU.out.own;rw [h1];intro e;cases e;omega) (Go.Joins.cell_of_block (own2a u0 _ _) 9);have s0_10:a0.cell? ⟨u0.heap.size,10,none⟩=some (.int .i64 f0):=cell_grown hg (by rw [World.size_alloc,World.size_alloc];omega) (by obtain ⟨g,h1,h2,h3⟩:=WU.out.own;rw [h1];intro e;cases e;omega) (Go.Joins.cell_of_block (own2a u0 _ _) 10);have s0_11:a0.cell? ⟨u0.heap.size,11,none⟩=some (.int .i64 4):=cell_grown hg (by rw [World.size_alloc,World.size_alloc];omega) (by obtain ⟨g,h1,h2,h3⟩:=WU.out.own;rw [h1];intro e;cases e;omega) (Go.Joins.cell_of_block (own2a u0 _ _) 11);have SZ:u0.heap.size<a0.heap.size:=Nat.lt_of_lt_of_le (by rw [World.size_alloc,World.size_alloc];omega) hg.size;have am0_0:a0.cell? ⟨w.heap.size+1,0,none⟩=some (.int .u64 ad):=cell_grown hg (by rw [World.size_alloc,World.size_alloc];have:=ZM.out;omega) (by obtain ⟨g,h1,h2,h3⟩:=WU.out.own;rw [h1];intro e;cases e;omega) ((cell_old2 ZM.out _ _).trans MM.out.1);have am0_1:a0.cell? ⟨w.heap.size+1,1,none⟩=some (.int .i64 cd):=cell_grown hg (by rw [World.size_alloc,World.size_alloc];have:=ZM.out;omega) (by obtain ⟨g,h1,h2,h3⟩:=WU.out.own;rw [h1];intro e;cases e;omega) ((cell_old2 ZM.out _ _).trans MM.out.2);have AZ:Hid (w.heap.size+1<a0.heap.size):=Nat.lt_trans ZM.out SZ;have AS:Hid (u0.heap.size<a0.heap.size):=SZ;have AM:Hid (a0.cell? ⟨w.heap.size+1,0,none⟩=some (.int .u64 ad)/\a0.cell? ⟨w.heap.size+1,1,none⟩=some (.int .i64 cd)):=⟨am0_0,am0_1⟩;clear hown hg hnil OW NW ON HZ am0_0 am0_1 WU BU MM ZM SZ)
 refine (g0.out _).mono ?_
 rintro e b0 ⟨rfl,hb⟩
 have t0_10:b0.cell? ⟨u0.heap.size,10,none⟩=some (.int .i64 f0):=cell_next hb AS.out s0_10
 have pm1_0:b0.cell? ⟨w.heap.size+1,0,none⟩=some (.int .u64 ad):=cell_next hb AZ.out AM.out.1
 have pm1_1:b0.cell? ⟨w.heap.size+1,1,none⟩=some (.int .i64 cd):=cell_next hb AZ.out AM.out.2
 have PB1:Hid (Below w.heap.size w b0):=below_then BA.out hb
 have PZ1:Hid (w.heap.size+1<b0.heap.size):=Nat.lt_of_lt_of_le AZ.out hb.size
 have PM1:Hid (b0.cell? ⟨w.heap.size+1,0,none⟩=some (.int .u64 ad)/\b0.cell? ⟨w.heap.size+1,1,none⟩=some (.int .i64 cd)):=⟨pm1_0,pm1_1⟩
 have PW1:Hid (Way b0 (w.heap.size+2) v1 1 (([]:List Value)++((zW5c A0 X0 y00 y01 y02 y03 y04 y05 y06 y07 f0 4):List Value))):=WA.out.keep hb
 clear hb WA BA AM AZ AS s0_0 s0_1 s0_2 s0_3 s0_4 s0_5 s0_6 s0_7 s0_8 s0_9 s0_10 s0_11
 go_wp2_with fail
 rw [rounds_succ]
 go_wp2_with fail
 refine (l1.out _ (H.out.keep PB1.out)).mono ?_
 rintro e u1 ⟨rfl,hb⟩
 have zm:w.heap.size+1<u1.heap.size:=Nat.lt_of_lt_of_le PZ1.out hb.size
 have um1_0:u1.cell? ⟨w.heap.size+1,0,none⟩=some (.int .u64 ad):=cell_next hb PZ1.out PM1.out.1
 have um1_1:u1.cell? ⟨w.heap.size+1,1,none⟩=some (.int .i64 cd):=cell_next hb PZ1.out PM1.out.2
 have WU:Hid (Way u1 (w.heap.size+2) v1 1 (([]:List Value)++((zW5c A0 X0 y00 y01 y02 y03 y04 y05 y06 y07 f0 4):List Value))):=PW1.out.keep hb
 have BU:Hid (Below w.heap.size w u1):=below_then PB1.out hb
 have ZM:Hid (w.heap.size+1<u1.heap.size):=zm
 have MM:Hid (u1.cell? ⟨w.heap.size+1,0,none⟩=some (.int .u64 ad)/\u1.cell? ⟨w.heap.size+1,1,none⟩=some (.int .i64 cd)):=⟨um1_0,um1_1⟩
 clear hb zm um1_0 um1_1 PB1 PZ1 PM1 PW1 pm1_0 pm1_1
 have OW:Hid (((u1.alloc (.cells (zW5a A1 X1 y10 y11 y12 y13 y14 y15 y16 y17 f1 3) 131)).alloc (.cells (zW5a A1 X1 y10 y11 y12 y13 y14 y15 y16 y17 f1 3) 131)).ownsRow (w.heap.size+2) 131 12 v1 1 (([]:List Value)++((zW5c A0 X0 y00 y01 y02 y03 y04 y05 y06 y07 f0 4):List Value))):=(WU.out.keep (Go.Joins.below_alloc2 _ _ _)).1
 have NW:Hid (∀ j x,((zW5c A1 X1 y10 y11 y12 y13 y14 y15 y16 y17 f1 3):List Value)[j]? =some x->((u1.alloc (.cells (zW5a A1 X1 y10 y11 y12 y13 y14 y15 y16 y17 f1 3) 131)).alloc (.cells (zW5a A1 X1 y10 y11 y12 y13 y14 y15 y16 y17 f1 3) 131)).cell? ((⟨u1.heap.size+1,0,none⟩:Addr).add j)=some x):=news_cells u1 _ (zW5a A1 X1 y10 y11 y12 y13 y14 y15 y16 y17 f1 3) 131
 have ON:Hid (∀ x∈((zW5c A1 X1 y10 y11 y12 y13 y14 y15 y16 y17 f1 3):List Value),x.oneCell'=true):=by show ∀ x∈((zW5c A1 X1 y10 y11 y12 y13 y14 y15 y16 y17 f1 3):List Value),x.oneCell'=true;simp [Value.oneCell']
 have HZ:Hid (w.heap.size+2<=((u1.alloc (.cells (zW5a A1 X1 y10 y11 y12 y13 y14 y15 y16 y17 f1 3) 131)).alloc (.cells (zW5a A1 X1 y10 y11 y12 y13 y14 y15 y16 y17 f1 3) 131)).heap.size):=by show _<=_;rw [World.size_alloc,World.size_alloc];have:=ZM.out;omega
 go_wp2_with (at_builtin;refine wpList_append_own _ rfl _ _ 124 rfl (w.heap.size+2) 131 i0 zstep 12 40 Tryd.underlying124 hi hz0 hz1 hz2 rfl (by decide) v1 1 (([]:List Value)++((zW5c A0 X0 y00 y01 y02 y03 y04 y05 y06 y07 f0 4):List Value)) rfl OW.out ⟨u1.heap.size+1,0,none⟩ 1 1 ((zW5c A1 X1 y10 y11 y12 y13 y14 y15 y16 y17 f1 3):List Value) rfl rfl NW.out ON.out MX1.out (by decide) HZ.out ?_;intro v2 a1 hown hg hnil;have WA:Hid (Way a1 (w.heap.size+2) v2 2 ((([]:List Value)++((zW5c A0 X0 y00 y01 y02 y03 y04 y05 y06 y07 f0 4):List Value))++((zW5c A1 X1 y10 y11 y12 y13 y14 y15 y16 y17 f1 3):List Value))):=Way.of_own hown (by omega);have BA:Hid (Below w.heap.size w a1):=(below_new2 BU.out _ _).grown hg (below_new2 BU.out _ _).size (fun j e=>by obtain ⟨g,h1,h2,h3⟩:=WU.out.own;rw [h1] at e;cases e;omega);have s1_0:a1.cell? ⟨u1.heap.size,0,none⟩=some (.int .u64 A1):=cell_grown hg (by rw [World.size_alloc,World.size_alloc];omega) (by obtain ⟨g,h1,h2,h3⟩:=WU.out.own;rw [h1];intro e;cases e;omega) (Go.Joins.cell_of_block (own2a u1 _ _) 0);have s1_1:a1.cell? ⟨u1.heap.size,1,none⟩=some (.int .u64 X1):=cell_grown hg (by rw [World.size_alloc,World.size_alloc];omega) (by obtain ⟨g,h1,h2,h3⟩:=WU.out.own;rw [h1];intro e;cases e;omega) (Go.Joins.cell_of_block (own2a u1 _ _) 1);have s1_2:a1.cell? ⟨u1.heap.size,2,none⟩=some (.bool y10):=cell_grown hg (by rw [World.size_alloc,World.size_alloc];omega) (by obtain ⟨g,h1,h2,h3⟩:=WU.out.own;rw [h1];intro e;cases e;omega) (Go.Joins.cell_of_block (own2a u1 _ _) 2);have s1_3:a1.cell? ⟨u1.heap.size,3,none⟩=some (.bool y11):=cell_grown hg (by rw [World.size_alloc,World.size_alloc];omega) (by obtain ⟨g,h1,h2,h3⟩:=WU.out.own;rw [h1];intro e;cases e;omega) (Go.Joins.cell_of_block (own2a u1 _ _) 3);have s1_4:a1.cell? ⟨u1.heap.size,4,none⟩=some (.bool y12):=cell_grown hg (by rw [World.size_alloc,World.size_alloc];omega) (by obtain ⟨g,h1,h2,h3⟩:=WU.out.own;rw [h1];intro e;cases e;omega) (Go.Joins.cell_of_block (own2a u1 _ _) 4);have s1_5:a1.cell? ⟨u1.heap.size,5,none⟩=some (.bool y13):=cell_grown hg (by rw [World.size_alloc,World.size_alloc];omega) (by obtain ⟨g,h1,h2,h3⟩:=WU.out.own;rw [h1];intro e;cases e;omega) (Go.Joins.cell_of_block (own2a u1 _ _) 5);have s1_6:a1.cell? ⟨u1.heap.size,6,none⟩=some (.bool y14):=cell_grown hg (by rw [World.size_alloc,World.size_alloc];omega) (by obtain ⟨g,h1,h2,h3⟩:=WU.out.own;rw [h1];intro e;cases e;omega) (Go.Joins.cell_of_block (own2a u1 _ _) 6);have s1_7:a1.cell? ⟨u1.heap.size,7,none⟩=some (.bool y15):=cell_grown hg (by rw [World.size_alloc,World.size_alloc];omega) (by obtain ⟨g,h1,h2,h3⟩:=WU.out.own;rw [h1];intro e;cases e;omega) (Go.Joins.cell_of_block (own2a u1 _ _) 7);have s1_8:a1.cell? ⟨u1.heap.size,8,none⟩=some (.bool y16):=cell_grown hg (by rw [World.size_alloc,World.size_alloc];omega) (by obtain ⟨g,h1,h2,h3⟩:=WU.out.own;rw [h1];intro e;cases e;omega) (Go.Joins.cell_of_block (own2a u1 _ _) 8);have s1_9:a1.cell? ⟨u1.heap.size,9,none⟩=some (.bool y17):=cell_grown hg (by rw [World.size_alloc,World.size_alloc];omega) (by obtain ⟨g,h1,h2,h3⟩:=WU.out.own;rw [h1];intro e;cases e;omega) (Go.Joins.cell_of_block (own2a u1 _ _) 9);have s1_10:a1.cell? ⟨u1.heap.size,10,none⟩=some (.int .i64 f1):=cell_grown hg (by rw [World.size_alloc,World.size_alloc];omega) (by obtain ⟨g,h1,h2,h3⟩:=WU.out.own;rw [h1];intro e;cases e;omega) (Go.Joins.cell_of_block (own2a u1 _ _) 10);have s1_11:a1.cell? ⟨u1.heap.size,11,none⟩=some (.int .i64 3):=cell_grown hg (by rw [World.size_alloc,World.size_alloc];omega) (by obtain ⟨g,h1,h2,h3⟩:=WU.out.own;rw [h1];intro e;cases e;omega) (Go.Joins.cell_of_block (own2a u1 _ _) 11);have SZ:u1.heap.size<a1.heap.size:=Nat.lt_of_lt_of_le (by rw [World.size_alloc,World.size_alloc];omega) hg.size;have am1_0:a1.cell? ⟨w.heap.size+1,0,none⟩=some (.int .u64 ad):=cell_grown hg (by rw [World.size_alloc,World.size_alloc];have:=ZM.out;omega) (by obtain ⟨g,h1,h2,h3⟩:=WU.out.own;rw [h1];intro e;cases e;omega) ((cell_old2 ZM.out _ _).trans MM.out.1);have am1_1:a1.cell? ⟨w.heap.size+1,1,none⟩=some (.int .i64 cd):=cell_grown hg (by rw [World.size_alloc,World.size_alloc];have:=ZM.out;omega) (by obtain ⟨g,h1,h2,h3⟩:=WU.out.own;rw [h1];intro e;cases e;omega) ((cell_old2 ZM.out _ _).trans MM.out.2);have AZ:Hid (w.heap.size+1<a1.heap.size):=Nat.lt_trans ZM.out SZ;have AS:Hid (u1.heap.size<a1.heap.size):=SZ;have AM:Hid (a1.cell? ⟨w.heap.size+1,0,none⟩=some (.int .u64 ad)/\a1.cell? ⟨w.heap.size+1,1,none⟩=some (.int .i64 cd)):=⟨am1_0,am1_1⟩;clear hown hg hnil OW NW ON HZ am1_0 am1_1 WU BU MM ZM SZ)
 refine (g1.out _).mono ?_
 rintro e b1 ⟨rfl,hb⟩
 have t1_10:b1.cell? ⟨u1.heap.size,10,none⟩=some (.int .i64 f1):=cell_next hb AS.out s1_10
 have pm2_0:b1.cell? ⟨w.heap.size+1,0,none⟩=some (.int .u64 ad):=cell_next hb AZ.out AM.out.1
 have pm2_1:b1.cell? ⟨w.heap.size+1,1,none⟩=some (.int .i64 cd):=cell_next hb AZ.out AM.out.2
 have PB2:Hid (Below w.heap.size w b1):=below_then BA.out hb
 have PZ2:Hid (w.heap.size+1<b1.heap.size):=Nat.lt_of_lt_of_le AZ.out hb.size
 have PM2:Hid (b1.cell? ⟨w.heap.size+1,0,none⟩=some (.int .u64 ad)/\b1.cell? ⟨w.heap.size+1,1,none⟩=some (.int .i64 cd)):=⟨pm2_0,pm2_1⟩
 have PW2:Hid (Way b1 (w.heap.size+2) v2 2 ((([]:List Value)++((zW5c A0 X0 y00 y01 y02 y03 y04 y05 y06 y07 f0 4):List Value))++((zW5c A1 X1 y10 y11 y12 y13 y14 y15 y16 y17 f1 3):List Value))):=WA.out.keep hb
 clear hb WA BA AM AZ AS s1_0 s1_1 s1_2 s1_3 s1_4 s1_5 s1_6 s1_7 s1_8 s1_9 s1_10 s1_11
 go_wp2_with fail
 rw [rounds_succ]
 go_wp2_with fail
 refine (l2.out _ (H.out.keep PB2.out)).mono ?_
 rintro e u2 ⟨rfl,hb⟩
 have zm:w.heap.size+1<u2.heap.size:=Nat.lt_of_lt_of_le PZ2.out hb.size
 have um2_0:u2.cell? ⟨w.heap.size+1,0,none⟩=some (.int .u64 ad):=cell_next hb PZ2.out PM2.out.1
 have um2_1:u2.cell? ⟨w.heap.size+1,1,none⟩=some (.int .i64 cd):=cell_next hb PZ2.out PM2.out.2
 have WU:Hid (Way u2 (w.heap.size+2) v2 2 ((([]:List Value)++((zW5c A0 X0 y00 y01 y02 y03 y04 y05 y06 y07 f0 4):List Value))++((zW5c A1 X1 y10 y11 y12 y13 y14 y15 y16 y17 f1 3):List Value))):=PW2.out.keep hb
 have BU:Hid (Below w.heap.size w u2):=below_then PB2.out hb
 have ZM:Hid (w.heap.size+1<u2.heap.size):=zm
 have MM:Hid (u2.cell? ⟨w.heap.size+1,0,none⟩=some (.int .u64 ad)/\u2.cell? ⟨w.heap.size+1,1,none⟩=some (.int .i64 cd)):=⟨um2_0,um2_1⟩
 clear hb zm um2_0 um2_1 PB2 PZ2 PM2 PW2 pm2_0 pm2_1
 have OW:Hid (((u2.alloc (.cells (zW5a A2 X2 y20 y21 y22 y23 y24 false y26 y27 f2 2) 131)).alloc (.cells (zW5a A2 X2 y20 y21 y22 y23 y24 false y26 y27 f2 2) 131)).ownsRow (w.heap.size+2) 131 12 v2 2 ((([]:List Value)++((zW5c A0 X0 y00 y01 y02 y03 y04 y05 y06 y07 f0 4):List Value))++((zW5c A1 X1 y10 y11 y12 y13 y14 y15 y16 y17 f1 3):List Value))):=(WU.out.keep (Go.Joins.below_alloc2 _ _ _)).1
 have NW:Hid (∀ j x,((zW5c A2 X2 y20 y21 y22 y23 y24 false y26 y27 f2 2):List Value)[j]? =some x->((u2.alloc (.cells (zW5a A2 X2 y20 y21 y22 y23 y24 false y26 y27 f2 2) 131)).alloc (.cells (zW5a A2 X2 y20 y21 y22 y23 y24 false y26 y27 f2 2) 131)).cell? ((⟨u2.heap.size+1,0,none⟩:Addr).add j)=some x):=news_cells u2 _ (zW5a A2 X2 y20 y21 y22 y23 y24 false y26 y27 f2 2) 131
 have ON:Hid (∀ x∈((zW5c A2 X2 y20 y21 y22 y23 y24 false y26 y27 f2 2):List Value),x.oneCell'=true):=by show ∀ x∈((zW5c A2 X2 y20 y21 y22 y23 y24 false y26 y27 f2 2):List Value),x.oneCell'=true;simp [Value.oneCell']
 have HZ:Hid (w.heap.size+2<=((u2.alloc (.cells (zW5a A2 X2 y20 y21 y22 y23 y24 false y26 y27 f2 2) 131)).alloc (.cells (zW5a A2 X2 y20 y21 y22 y23 y24 false y26 y27 f2 2) 131)).heap.size):=by show _<=_;rw [World.size_alloc,World.size_alloc];have:=ZM.out;omega
 go_wp2_with (at_builtin;refine wpList_append_own _ rfl _ _ 124 rfl (w.heap.size+2) 131 i0 zstep 12 40 Tryd.underlying124 hi hz0 hz1 hz2 rfl (by decide) v2 2 ((([]:List Value)++((zW5c A0 X0 y00 y01 y02 y03 y04 y05 y06 y07 f0 4):List Value))++((zW5c A1 X1 y10 y11 y12 y13 y14 y15 y16 y17 f1 3):List Value)) rfl OW.out ⟨u2.heap.size+1,0,none⟩ 1 1 ((zW5c A2 X2 y20 y21 y22 y23 y24 false y26 y27 f2 2):List Value) rfl rfl NW.out ON.out MX2.out (by decide) HZ.out ?_;intro v3 a2 hown hg hnil;have WA:Hid (Way a2 (w.heap.size+2) v3 3 (((([]:List Value)++((zW5c A0 X0 y00 y01 y02 y03 y04 y05 y06 y07 f0 4):List Value))++((zW5c A1 X1 y10 y11 y12 y13 y14 y15 y16 y17 f1 3):List Value))++((zW5c A2 X2 y20 y21 y22 y23 y24 false y26 y27 f2 2):List Value))):=Way.of_own hown (by omega);have BA:Hid (Below w.heap.size w a2):=(below_new2 BU.out _ _).grown hg (below_new2 BU.out _ _).size (fun j e=>by obtain ⟨g,h1,h2,h3⟩:=WU.out.own;rw [h1] at e;cases e;omega);have s2_0:a2.cell? ⟨u2.heap.size,0,none⟩=some (.int .u64 A2):=cell_grown hg (by rw [World.size_alloc,World.size_alloc];omega) (by obtain ⟨g,h1,h2,h3⟩:=WU.out.own;rw [h1];intro e;cases e;omega) (Go.Joins.cell_of_block (own2a u2 _ _) 0);have s2_1:a2.cell? ⟨u2.heap.size,1,none⟩=some (.int .u64 X2):=cell_grown hg (by rw [World.size_alloc,World.size_alloc];omega) (by obtain ⟨g,h1,h2,h3⟩:=WU.out.own;rw [h1];intro e;cases e;omega) (Go.Joins.cell_of_block (own2a u2 _ _) 1);have s2_2:a2.cell? ⟨u2.heap.size,2,none⟩=some (.bool y20):=cell_grown hg (by rw [World.size_alloc,World.size_alloc];omega) (by obtain ⟨g,h1,h2,h3⟩:=WU.out.own;rw [h1];intro e;cases e;omega) (Go.Joins.cell_of_block (own2a u2 _ _) 2);have s2_3:a2.cell? ⟨u2.heap.size,3,none⟩=some (.bool y21):=cell_grown hg (by rw [World.size_alloc,World.size_alloc];omega) (by obtain ⟨g,h1,h2,h3⟩:=WU.out.own;rw [h1];intro e;cases e;omega) (Go.Joins.cell_of_block (own2a u2 _ _) 3);have s2_4:a2.cell? ⟨u2.heap.size,4,none⟩=some (.bool y22):=cell_grown hg (by rw [World.size_alloc,World.size_alloc];omega) (by obtain ⟨g,h1,h2,h3⟩:=WU.out.own;rw [h1];intro e;cases e;omega) (Go.Joins.cell_of_block (own2a u2 _ _) 4);have s2_5:a2.cell? ⟨u2.heap.size,5,none⟩=some (.bool y23):=cell_grown hg (by rw [World.size_alloc,World.size_alloc];omega) (by obtain ⟨g,h1,h2,h3⟩:=WU.out.own;rw [h1];intro e;cases e;omega) (Go.Joins.cell_of_block (own2a u2 _ _) 5);have s2_6:a2.cell? ⟨u2.heap.size,6,none⟩=some (.bool y24):=cell_grown hg (by rw [World.size_alloc,World.size_alloc];omega) (by obtain ⟨g,h1,h2,h3⟩:=WU.out.own;rw [h1];intro e;cases e;omega) (Go.Joins.cell_of_block (own2a u2 _ _) 6);have s2_7:a2.cell? ⟨u2.heap.size,7,none⟩=some (.bool false):=cell_grown hg (by rw [World.size_alloc,World.size_alloc];omega) (by obtain ⟨g,h1,h2,h3⟩:=WU.out.own;rw [h1];intro e;cases e;omega) (Go.Joins.cell_of_block (own2a u2 _ _) 7);have s2_8:a2.cell? ⟨u2.heap.size,8,none⟩=some (.bool y26):=cell_grown hg (by rw [World.size_alloc,World.size_alloc];omega) (by obtain ⟨g,h1,h2,h3⟩:=WU.out.own;rw [h1];intro e;cases e;omega) (Go.Joins.cell_of_block (own2a u2 _ _) 8);have s2_9:a2.cell? ⟨u2.heap.size,9,none⟩=some (.bool y27):=cell_grown hg (by rw [World.size_alloc,World.size_alloc];omega) (by obtain ⟨g,h1,h2,h3⟩:=WU.out.own;rw [h1];intro e;cases e;omega) (Go.Joins.cell_of_block (own2a u2 _ _) 9);have s2_10:a2.cell? ⟨u2.heap.size,10,none⟩=some (.int .i64 f2):=cell_grown hg (by rw [World.size_alloc,World.size_alloc];omega) (by obtain ⟨g,h1,h2,h3⟩:=WU.out.own;rw [h1];intro e;cases e;omega) (Go.Joins.cell_of_block (own2a u2 _ _) 10);have s2_11:a2.cell? ⟨u2.heap.size,11,none⟩=some (.int .i64 2):=cell_grown hg (by rw [World.size_alloc,World.size_alloc];omega) (by obtain ⟨g,h1,h2,h3⟩:=WU.out.own;rw [h1];intro e;cases e;omega) (Go.Joins.cell_of_block (own2a u2 _ _) 11);have SZ:u2.heap.size<a2.heap.size:=Nat.lt_of_lt_of_le (by rw [World.size_alloc,World.size_alloc];omega) hg.size;have am2_0:a2.cell? ⟨w.heap.size+1,0,none⟩=some (.int .u64 ad):=cell_grown hg (by rw [World.size_alloc,World.size_alloc];have:=ZM.out;omega) (by obtain ⟨g,h1,h2,h3⟩:=WU.out.own;rw [h1];intro e;cases e;omega) ((cell_old2 ZM.out _ _).trans MM.out.1);have am2_1:a2.cell? ⟨w.heap.size+1,1,none⟩=some (.int .i64 cd):=cell_grown hg (by rw [World.size_alloc,World.size_alloc];have:=ZM.out;omega) (by obtain ⟨g,h1,h2,h3⟩:=WU.out.own;rw [h1];intro e;cases e;omega) ((cell_old2 ZM.out _ _).trans MM.out.2);have AZ:Hid (w.heap.size+1<a2.heap.size):=Nat.lt_trans ZM.out SZ;have AS:Hid (u2.heap.size<a2.heap.size):=SZ;have AM:Hid (a2.cell? ⟨w.heap.size+1,0,none⟩=some (.int .u64 ad)/\a2.cell? ⟨w.heap.size+1,1,none⟩=some (.int .i64 cd)):=⟨am2_0,am2_1⟩;clear hown hg hnil OW NW ON HZ am2_0 am2_1 WU BU MM ZM SZ)
 refine (g2.out _).mono ?_
 rintro e b2 ⟨rfl,hb⟩
 have t2_10:b2.cell? ⟨u2.heap.size,10,none⟩=some (.int .i64 f2):=cell_next hb AS.out s2_10
 have pm3_0:b2.cell? ⟨w.heap.size+1,0,none⟩=some (.int .u64 ad):=cell_next hb AZ.out AM.out.1
 have pm3_1:b2.cell? ⟨w.heap.size+1,1,none⟩=some (.int .i64 cd):=cell_next hb AZ.out AM.out.2
 have PB3:Hid (Below w.heap.size w b2):=below_then BA.out hb
 have PZ3:Hid (w.heap.size+1<b2.heap.size):=Nat.lt_of_lt_of_le AZ.out hb.size
 have PM3:Hid (b2.cell? ⟨w.heap.size+1,0,none⟩=some (.int .u64 ad)/\b2.cell? ⟨w.heap.size+1,1,none⟩=some (.int .i64 cd)):=⟨pm3_0,pm3_1⟩
 have PW3:Hid (Way b2 (w.heap.size+2) v3 3 (((([]:List Value)++((zW5c A0 X0 y00 y01 y02 y03 y04 y05 y06 y07 f0 4):List Value))++((zW5c A1 X1 y10 y11 y12 y13 y14 y15 y16 y17 f1 3):List Value))++((zW5c A2 X2 y20 y21 y22 y23 y24 false y26 y27 f2 2):List Value))):=WA.out.keep hb
 clear hb WA BA AM AZ AS s2_0 s2_1 s2_2 s2_3 s2_4 s2_5 s2_6 s2_7 s2_8 s2_9 s2_10 s2_11
 go_wp2_with fail
 rw [rounds_succ]
 go_wp2_with fail
 refine (l3.out _ (H.out.keep PB3.out)).mono ?_
 rintro e u3 ⟨rfl,hb⟩
 exact ⟨rfl,rfl,below_then PB3.out hb⟩
end Go.Proofs.YtkiclbnbnjbcaaaDoor
