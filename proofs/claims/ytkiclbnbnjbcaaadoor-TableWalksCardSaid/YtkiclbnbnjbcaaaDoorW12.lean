import Derived.Test.YtkiclbnbnjbcaaaDoorKZ
import Derived.Test.YtkiclbnbnjbcaaaDoorMW
import Derived.Test.YtkiclbnbnjbcaaaDoorW8
namespace Go.Proofs.YtkiclbnbnjbcaaaDoor
open Go.ChangeShapes Go.WideShapes Go.ChangeAt Go.RowKit Go.Maps
set_option linter.unusedSimpArgs false
set_option linter.unusedVariables false
set_option maxRecDepth 8000
theorem grown_of_but {w w':World} {f:Nat} (h:Kept (fun k=>k≠f) w w'):w.grownBy w' (some f):=⟨h.os,h.tape,h.output,h.size,fun k hk hne=>h.block k (fun e=>hne (by rw [e]))⟩
theorem there_kept {W W':World} {b o n:Nat} (h:W.there b o n) (hb:W'.heap[b]? =W.heap[b]?):W'.there b o n:=fun j hj=>by
 obtain ⟨h1,h2⟩:=h j hj
 exact ⟨by rw [World.cell?_of_block (w:=W) (a:=⟨b,o+j,none⟩) hb];exact h1,by
  have:W'.frozen? ⟨b,o+j,none⟩=W.frozen? ⟨b,o+j,none⟩:=by simp only [World.frozen?,hb]
  rw [this];exact h2⟩
theorem cell_kept {W W':World} {b i:Nat} {v:Value} (h:W.cell? ⟨b,i,none⟩=some v) (hb:W'.heap[b]? =W.heap[b]?):W'.cell? ⟨b,i,none⟩=some v:=(World.cell?_of_block (w:=W) (a:=⟨b,i,none⟩) hb).trans h
theorem frozen_kept {W W':World} {b i:Nat} (h:W.frozen? ⟨b,i,none⟩=false) (hb:W'.heap[b]? =W.heap[b]?):W'.frozen? ⟨b,i,none⟩=false:=by
 have:W'.frozen? ⟨b,i,none⟩=W.frozen? ⟨b,i,none⟩:=by simp only [World.frozen?,hb]
 rw [this];exact h
theorem below_drew8 {w w':World} (h:Below w.drew.heap.size w.drew w'):Below w.heap.size w w':=⟨h.os,h.tape,h.output,h.size,h.block⟩
theorem walk_end (w X:World) (fr:Int) (pw pu px gg lg dd:Bool) (tmps:Array Value) (R:Ending->World->Prop)
 (h8:tmps.getD 8 undef=.pointer (some ⟨w.heap.size+1,0,none⟩)) (h9:tmps.getD 9 undef=.pointer (some ⟨w.heap.size+1+1,0,none⟩)) (h10:tmps.getD 10 undef=.pointer (some ⟨w.heap.size+1+1+1,0,none⟩))
 (r1:X.rangeAt (w.heap.size+1) 0 [.int .i64 fr,.bool pw,.bool pu,.bool px,.bool gg,.bool lg,.bool dd]) (r2:X.rangeAt (w.heap.size+1+1) 0 [.int .u64 0,.int .i64 0]) (r3:X.rangeAt (w.heap.size+1+1+1) 0 [.int .i64 0])
 (hR:R (.returned (.tuple #[.agg #[.int .i64 fr,.bool pw,.bool pu,.bool px,.bool gg,.bool lg,.bool dd],.agg #[.int .u64 0,.int .i64 0],.int .i64 0])) X) :
 bodyPostD Tryd.prog Tryd.f22 R Exit.ret { tmps:=tmps,defers:=[{ target:=Target.fn (Fn.func 47) #[.pointer (some ⟨w.heap.size+1,0,none⟩),.pointer (some ⟨w.heap.size+1+1,0,none⟩),.pointer (some ⟨w.heap.size+1+1+1,0,none⟩)],args:= #[] }] } X:=by
 refine leaves_cons (f:=47) (args:= #[.pointer (some ⟨w.heap.size+1,0,none⟩),.pointer (some ⟨w.heap.size+1+1,0,none⟩),.pointer (some ⟨w.heap.size+1+1+1,0,none⟩)]) (by simp) (by simp [go_sem]) ?_
 refine (catch_idle _ _ _ _).mono ?_
 rintro e u' w'' ⟨rfl,rfl,rfl⟩
 exact ⟨_,results_cell3 Tryd.results22 tmps Tryd.prog w'' _ _ _ _ _ _ h8 h9 h10 (run_loadVar_mid w'' _ 0 56 _ _ r1 Tryd.underlying56 rfl found_info) (run_loadVar_mid w'' _ 0 58 _ _ r2 Tryd.underlying58 rfl fault_info) (load_errno w'' _ 0 (range_cell r3)),hR⟩
set_option maxHeartbeats 2000000 in
theorem walk_ok3 {rb:Nat} (root addr p0 p1 p2 p3 po cd:Int) (x u f:Bool)
 (hc:Hid (∀ w:World,Calls Tryd.prog 23 #[.int .u64 addr] w fun e w'=>e=.returned (.bool true)/\w'=w))
 (sp:Hid (∀ w:World,Calls Tryd.prog 49 #[.int .u64 addr] w fun e w'=>e=.returned (.tuple #[.agg #[.int .i64 p0,.int .i64 p1,.int .i64 p2,.int .i64 p3],.int .i64 po])/\Below w.heap.size w w'))
 (co:Hid (∀ w:World,Calls Tryd.prog 50 #[.agg #[.bool x,.bool u,.bool f]] w fun e w'=>e=.returned (.int .i64 cd)/\Below w.heap.size w w')) (w:World)
 (hh:Hid (∀ W:World,Below w.heap.size w W->Calls Tryd.prog 48 #[.pointer (some ⟨rb,0,none⟩),.int .i64 root] W fun e w'=>e=.returned (.bool true)/\Below W.heap.size W w'))
 (xs:List Value) (pw pu px:Bool) (fo:Hid (∀ W:World,Below w.heap.size w W->Calls Tryd.prog 51 #[.pointer (some ⟨rb,0,none⟩),.int .i64 root,.agg #[.int .i64 p0,.int .i64 p1,.int .i64 p2,.int .i64 p3],.agg #[.int .u64 addr,.int .i64 cd]] W fun e w'=> ∃ v,e=.returned v/\Way w' (W.heap.size+2) v 3 xs/\Below W.heap.size W w'))
 (cm:Hid (∀ (W:World) (base:Nat) (v:Value),Way W base v 3 xs->Calls Tryd.prog 52 #[v] W fun e w'=>e=.returned (.agg #[.bool pw,.bool pu,.bool px])/\Below W.heap.size W w'))
 {K0:Nat->Prop} {has:Int->Bool} {F:Int} {M:Int->Int} {m:Nat} (M':Int->Int) (hX:RamX w K0 rb has F M m) (ht:Tab w) (k00:K0 0)
 (A X fl lv fr:Int) (y0 y1 y2 y3 y4 y5 y6 y7 gg lg dd:Bool) (hl0:xs[24]? =some (.int .u64 A)) (hl1:xs[25]? =some (.int .u64 X)) (hl2:xs[26]? =some (.bool y0)) (hl3:xs[27]? =some (.bool y1)) (hl4:xs[28]? =some (.bool y2)) (hl5:xs[29]? =some (.bool y3)) (hl6:xs[30]? =some (.bool y4)) (hl7:xs[31]? =some (.bool y5)) (hl8:xs[32]? =some (.bool y6)) (hl9:xs[33]? =some (.bool y7)) (hl10:xs[34]? =some (.int .i64 fl)) (hl11:xs[35]? =some (.int .i64 lv))
 (ma:Hid (∀ W:World,Calls Tryd.prog 25 #[.agg #[.bool pw,.bool pu,.bool px],.agg #[.bool x,.bool u,.bool f]] W fun e w'=>e=.returned (.bool true)/\Below W.heap.size W w'))
 (mk:Hid (∀ (W:World) (K:Nat->Prop) (base:Nat) (v:Value),Way W base v 3 xs->(∀ j,base<=j->j<W.heap.size->K j)->K 0->Tab W->IsRamK W K rb has F M m->Calls Tryd.prog 54 #[.pointer (some ⟨rb,0,none⟩),v,.bool x] W fun e w'=>e=.returned (.tuple #[])/\IsRamK w' K rb has F M' (m+8)/\Kept K W w'/\Tab w'))
 (te:Hid (∀ W:World,Calls Tryd.prog 55 #[.agg #[.int .u64 A,.int .u64 X,.bool y0,.bool y1,.bool y2,.bool y3,.bool y4,.bool y5,.bool y6,.bool y7,.int .i64 fl,.int .i64 lv],.agg #[.bool pw,.bool pu,.bool px],.int .i64 p3,.bool x] W fun e w'=>e=.returned (.agg #[.int .i64 fr,.bool pw,.bool pu,.bool px,.bool gg,.bool lg,.bool dd])/\Below W.heap.size W w')) :
 Calls Tryd.prog 22 #[.pointer (some ⟨rb,0,none⟩),.int .i64 root,.int .u64 addr,.agg #[.bool x,.bool u,.bool f]] w fun e w'=>e=.returned (.tuple #[.agg #[.int .i64 fr,.bool pw,.bool pu,.bool px,.bool gg,.bool lg,.bool dd],.agg #[.int .u64 0,.int .i64 0],.int .i64 0])/\RamX w' K0 rb has F M' (m+8)/\Kept K0 w w'/\Tab w':=by
 have HX:Hid (RamX w K0 rb has F M m):=hX
 have HT:Hid (Tab w):=ht
 have HK0:Hid (K0 0):=k00
 have HL:Hid (∀ i:Nat,i<12->xs[24+i]? =(#[.int .u64 A,.int .u64 X,.bool y0,.bool y1,.bool y2,.bool y3,.bool y4,.bool y5,.bool y6,.bool y7,.int .i64 fl,.int .i64 lv]:Array Value)[i]?):=fun i hi=>by
  match i,hi with
  | 0, _ => exact hl0
  | 1, _ => exact hl1
  | 2, _ => exact hl2
  | 3, _ => exact hl3
  | 4, _ => exact hl4
  | 5, _ => exact hl5
  | 6, _ => exact hl6
  | 7, _ => exact hl7
  | 8, _ => exact hl8
  | 9, _ => exact hl9
  | 10, _ => exact hl10
  | 11, _ => exact hl11
 clear hX ht k00 hl0 hl1 hl2 hl3 hl4 hl5 hl6 hl7 hl8 hl9 hl10 hl11
 have hmf: ∀ (fn:Fn) (first cap:Array Value) (w:World),(Instr.makeFunc fn first cap).run Tryd.prog w=.ok (.func fn first cap) w:=fun _ _ _ _=>rfl
 go_enter_defers Tryd.func22,Tryd.ntmps22
 go_wp2_with fail
 refine (hc.out _).mono ?_
 rintro e w1 ⟨rfl,rfl⟩
 go_wp2_with fail
 refine (hh.out _ (Door.made w _).b).mono ?_
 rintro e w2 ⟨rfl,hb⟩
 have D2:Hid (Door w w2):=(Door.made w _).next hb
 have a2_0:w2.cell? ⟨w.heap.size,0,none⟩=some (.bool x):=carry0 hb (sz4 w _ _ _ _) (Go.Joins.cell_of_block (box4 w _ _ _ _) 0)
 have a2_1:w2.cell? ⟨w.heap.size,1,none⟩=some (.bool u):=carry0 hb (sz4 w _ _ _ _) (Go.Joins.cell_of_block (box4 w _ _ _ _) 1)
 have a2_2:w2.cell? ⟨w.heap.size,2,none⟩=some (.bool f):=carry0 hb (sz4 w _ _ _ _) (Go.Joins.cell_of_block (box4 w _ _ _ _) 2)
 have za2:w.heap.size<w2.heap.size:=Nat.lt_of_lt_of_le (sz4 w _ _ _ _) hb.size
 clear hb
 go_wp2_with fail
 refine (sp.out _).mono ?_
 rintro e w3 ⟨rfl,hb⟩
 have D3:Hid (Door w w3):=D2.out.next hb
 have a3_0:w3.cell? ⟨w.heap.size,0,none⟩=some (.bool x):=carry0 hb za2 a2_0
 have a3_1:w3.cell? ⟨w.heap.size,1,none⟩=some (.bool u):=carry0 hb za2 a2_1
 have a3_2:w3.cell? ⟨w.heap.size,2,none⟩=some (.bool f):=carry0 hb za2 a2_2
 have za3:w.heap.size<w3.heap.size:=Nat.lt_of_lt_of_le za2 hb.size
 clear hb D2 a2_0 a2_1 a2_2 za2
 go_wp2_with fail
 refine (co.out _).mono ?_
 rintro e w4 ⟨rfl,hb⟩
 have D4:Hid (Door w w4):=(D3.out.next (Go.Joins.below_alloc1 _ _)).next hb
 have a4_0:w4.cell? ⟨w.heap.size,0,none⟩=some (.bool x):=carry1 hb za3 a3_0
 have a4_1:w4.cell? ⟨w.heap.size,1,none⟩=some (.bool u):=carry1 hb za3 a3_1
 have a4_2:w4.cell? ⟨w.heap.size,2,none⟩=some (.bool f):=carry1 hb za3 a3_2
 have q4_0:w4.cell? ⟨w3.heap.size,0,none⟩=some (.int .i64 p0):=carryN hb
 have q4_1:w4.cell? ⟨w3.heap.size,1,none⟩=some (.int .i64 p1):=carryN hb
 have q4_2:w4.cell? ⟨w3.heap.size,2,none⟩=some (.int .i64 p2):=carryN hb
 have q4_3:w4.cell? ⟨w3.heap.size,3,none⟩=some (.int .i64 p3):=carryN hb
 have za4:w.heap.size<w4.heap.size:=Nat.lt_of_lt_of_le (old1 za3 _) hb.size
 have zq4:w3.heap.size<w4.heap.size:=Nat.lt_of_lt_of_le (szA _ _) hb.size
 have ZD3:Hid (w.heap.size+1+1+1<w3.heap.size):=D3.out.l
 have ZQ4:Hid (w3.heap.size<w4.heap.size):=zq4
 clear hb D3 a3_0 a3_1 a3_2
 go_wp2_with fail
 have ZW4:Hid (w.heap.size<w4.heap.size):=za4
 refine (fo.out _ (D4.out.next (Go.Joins.below_alloc1 _ _)).b).mono ?_
 rintro e w5 ⟨v,rfl,hway,hb⟩
 have D5:Hid (Door w w5):=(D4.out.next (Go.Joins.below_alloc1 _ _)).next hb
 have WY5:Hid (Way w5 (w4.heap.size+1+2) v 3 xs):=by have:=hway;rwa [World.size_alloc] at this
 have a5_0:w5.cell? ⟨w.heap.size,0,none⟩=some (.bool x):=carry1 hb za4 a4_0
 have a5_1:w5.cell? ⟨w.heap.size,1,none⟩=some (.bool u):=carry1 hb za4 a4_1
 have a5_2:w5.cell? ⟨w.heap.size,2,none⟩=some (.bool f):=carry1 hb za4 a4_2
 have q5_0:w5.cell? ⟨w3.heap.size,0,none⟩=some (.int .i64 p0):=carry1 hb zq4 q4_0
 have q5_1:w5.cell? ⟨w3.heap.size,1,none⟩=some (.int .i64 p1):=carry1 hb zq4 q4_1
 have q5_2:w5.cell? ⟨w3.heap.size,2,none⟩=some (.int .i64 p2):=carry1 hb zq4 q4_2
 have q5_3:w5.cell? ⟨w3.heap.size,3,none⟩=some (.int .i64 p3):=carry1 hb zq4 q4_3
 have m5_0:w5.cell? ⟨w4.heap.size,0,none⟩=some (.int .u64 addr):=carryN hb
 have m5_1:w5.cell? ⟨w4.heap.size,1,none⟩=some (.int .i64 cd):=carryN hb
 have za5:w.heap.size<w5.heap.size:=Nat.lt_of_lt_of_le (old1 za4 _) hb.size
 have zq5:w3.heap.size<w5.heap.size:=Nat.lt_of_lt_of_le (old1 zq4 _) hb.size
 have zm5:w4.heap.size<w5.heap.size:=Nat.lt_of_lt_of_le (szA _ _) hb.size
 clear hb hway D4 a4_0 a4_1 a4_2 q4_0 q4_1 q4_2 q4_3 za4 zq4
 go_wp2_with fail
 refine (cm.out _ _ _ WY5.out).mono ?_
 rintro e w6 ⟨rfl,hb⟩
 have D6:Hid (Door w w6):=D5.out.next hb
 have WY6:Hid (Way w6 (w4.heap.size+1+2) v 3 xs):=WY5.out.keep hb
 have a6_0:w6.cell? ⟨w.heap.size,0,none⟩=some (.bool x):=carry0 hb za5 a5_0
 have a6_1:w6.cell? ⟨w.heap.size,1,none⟩=some (.bool u):=carry0 hb za5 a5_1
 have a6_2:w6.cell? ⟨w.heap.size,2,none⟩=some (.bool f):=carry0 hb za5 a5_2
 have q6_0:w6.cell? ⟨w3.heap.size,0,none⟩=some (.int .i64 p0):=carry0 hb zq5 q5_0
 have q6_1:w6.cell? ⟨w3.heap.size,1,none⟩=some (.int .i64 p1):=carry0 hb zq5 q5_1
 have q6_2:w6.cell? ⟨w3.heap.size,2,none⟩=some (.int .i64 p2):=carry0 hb zq5 q5_2
 have q6_3:w6.cell? ⟨w3.heap.size,3,none⟩=some (.int .i64 p3):=carry0 hb zq5 q5_3
 have m6_0:w6.cell? ⟨w4.heap.size,0,none⟩=some (.int .u64 addr):=carry0 hb zm5 m5_0
 have m6_1:w6.cell? ⟨w4.heap.size,1,none⟩=some (.int .i64 cd):=carry0 hb zm5 m5_1
 have za6:w.heap.size<w6.heap.size:=Nat.lt_of_lt_of_le za5 hb.size
 have zq6:w3.heap.size<w6.heap.size:=Nat.lt_of_lt_of_le zq5 hb.size
 have zm6:w4.heap.size<w6.heap.size:=Nat.lt_of_lt_of_le zm5 hb.size
 clear hb D5 WY5 a5_0 a5_1 a5_2 q5_0 q5_1 q5_2 q5_3 m5_0 m5_1 za5 zq5 zm5
 go_wp2_with fail
 refine (ma.out _).mono ?_
 rintro e w7 ⟨rfl,hb⟩
 have D7:Hid (Door w w7):=(D6.out.next (Go.Joins.below_alloc1 _ _)).next hb
 have WY7:Hid (Way w7 (w4.heap.size+1+2) v 3 xs):=(WY6.out.keep (Go.Joins.below_alloc1 _ _)).keep hb
 have a7_0:w7.cell? ⟨w.heap.size,0,none⟩=some (.bool x):=carry1 hb za6 a6_0
 have a7_1:w7.cell? ⟨w.heap.size,1,none⟩=some (.bool u):=carry1 hb za6 a6_1
 have a7_2:w7.cell? ⟨w.heap.size,2,none⟩=some (.bool f):=carry1 hb za6 a6_2
 have q7_0:w7.cell? ⟨w3.heap.size,0,none⟩=some (.int .i64 p0):=carry1 hb zq6 q6_0
 have q7_1:w7.cell? ⟨w3.heap.size,1,none⟩=some (.int .i64 p1):=carry1 hb zq6 q6_1
 have q7_2:w7.cell? ⟨w3.heap.size,2,none⟩=some (.int .i64 p2):=carry1 hb zq6 q6_2
 have q7_3:w7.cell? ⟨w3.heap.size,3,none⟩=some (.int .i64 p3):=carry1 hb zq6 q6_3
 have m7_0:w7.cell? ⟨w4.heap.size,0,none⟩=some (.int .u64 addr):=carry1 hb zm6 m6_0
 have m7_1:w7.cell? ⟨w4.heap.size,1,none⟩=some (.int .i64 cd):=carry1 hb zm6 m6_1
 have r7_0:w7.cell? ⟨w6.heap.size,0,none⟩=some (.bool pw):=carryN hb
 have r7_1:w7.cell? ⟨w6.heap.size,1,none⟩=some (.bool pu):=carryN hb
 have r7_2:w7.cell? ⟨w6.heap.size,2,none⟩=some (.bool px):=carryN hb
 have za7:w.heap.size<w7.heap.size:=Nat.lt_of_lt_of_le (old1 za6 _) hb.size
 have zq7:w3.heap.size<w7.heap.size:=Nat.lt_of_lt_of_le (old1 zq6 _) hb.size
 have zm7:w4.heap.size<w7.heap.size:=Nat.lt_of_lt_of_le (old1 zm6 _) hb.size
 have zr7:w6.heap.size<w7.heap.size:=Nat.lt_of_lt_of_le (szA _ _) hb.size
 have ZW6:Hid (w.heap.size<w6.heap.size):=za6
 have ZQ6:Hid (w3.heap.size<w6.heap.size):=zq6
 clear hb D6 WY6 a6_0 a6_1 a6_2 q6_0 q6_1 q6_2 q6_3 m6_0 m6_1 za6 zq6 zm6
 go_wp2_with fail
 have KD: ∀ j,(fun j=>K0 j\/(w.heap.size<=j/\j<w7.heap.size)) j->K0 j\/(w.heap.size<=j/\j<w7.heap.size):=fun j h=>h
 refine (mk.out _ (fun j=>K0 j\/(w.heap.size<=j/\j<w7.heap.size)) _ _ WY7.out (fun j h1 h2=>Or.inr ⟨by have:=ZW4.out;omega,h2⟩) (Or.inl HK0.out) (HT.out.keep D7.out.b) (HX.out.1.more (grown_of_below' D7.out.b) KD)).mono ?_
 rintro e w8 ⟨rfl,hI,hk,hT8⟩
 clear KD
 have inK: ∀ j,w.heap.size<=j->j<w7.heap.size->w8.heap[j]? =w7.heap[j]? :=fun j h1 h2=>hk.block j (Or.inr ⟨h1,h2⟩)
 have l7:=D7.out.l
 obtain ⟨⟨hlen,hrow⟩,g,cap,rfl,hg1,hg2⟩:=WY7.out
 obtain ⟨cur,hcur,hcx⟩:=way_block hrow hg2
 have zw4:=ZW4.out
 have zw6:=ZW6.out
 have C8:w8.heap[g]? =some (.cells cur 131 (0,0)):=(inK g (by omega) hg2).trans hcur
 have wl: ∀ i,i<12->w8.cell? ⟨g,24+i,none⟩=(#[.int .u64 A,.int .u64 X,.bool y0,.bool y1,.bool y2,.bool y3,.bool y4,.bool y5,.bool y6,.bool y7,.int .i64 fl,.int .i64 lv]:Array Value)[i]? :=fun i hi=>by
  have h1:=HL.out i hi
  cases hv:(#[.int .u64 A,.int .u64 X,.bool y0,.bool y1,.bool y2,.bool y3,.bool y4,.bool y5,.bool y6,.bool y7,.int .i64 fl,.int .i64 lv]:Array Value)[i]? with
  | none => rw [Array.getElem?_eq_none_iff] at hv; simp at hv; omega
  | some v => rw [hv] at h1; exact (Go.Joins.cell_of_block C8 (24 + i)).trans (hcx _ _ h1)
 have l8_0:w8.cell? ⟨g,24,none⟩=some (.int .u64 A):=wl 0 (by omega)
 have l8_1:w8.cell? ⟨g,25,none⟩=some (.int .u64 X):=wl 1 (by omega)
 have l8_2:w8.cell? ⟨g,26,none⟩=some (.bool y0):=wl 2 (by omega)
 have l8_3:w8.cell? ⟨g,27,none⟩=some (.bool y1):=wl 3 (by omega)
 have l8_4:w8.cell? ⟨g,28,none⟩=some (.bool y2):=wl 4 (by omega)
 have l8_5:w8.cell? ⟨g,29,none⟩=some (.bool y3):=wl 5 (by omega)
 have l8_6:w8.cell? ⟨g,30,none⟩=some (.bool y4):=wl 6 (by omega)
 have l8_7:w8.cell? ⟨g,31,none⟩=some (.bool y5):=wl 7 (by omega)
 have l8_8:w8.cell? ⟨g,32,none⟩=some (.bool y6):=wl 8 (by omega)
 have l8_9:w8.cell? ⟨g,33,none⟩=some (.bool y7):=wl 9 (by omega)
 have l8_10:w8.cell? ⟨g,34,none⟩=some (.int .i64 fl):=wl 10 (by omega)
 have l8_11:w8.cell? ⟨g,35,none⟩=some (.int .i64 lv):=wl 11 (by omega)
 have r8_0:w8.cell? ⟨w6.heap.size,0,none⟩=some (.bool pw):=cell_kept r7_0 (inK _ (by omega) zr7)
 have r8_1:w8.cell? ⟨w6.heap.size,1,none⟩=some (.bool pu):=cell_kept r7_1 (inK _ (by omega) zr7)
 have r8_2:w8.cell? ⟨w6.heap.size,2,none⟩=some (.bool px):=cell_kept r7_2 (inK _ (by omega) zr7)
 have q8_3:w8.cell? ⟨w3.heap.size,3,none⟩=some (.int .i64 p3):=cell_kept q7_3 (inK _ (by omega) zq7)
 have a8_0:w8.cell? ⟨w.heap.size,0,none⟩=some (.bool x):=cell_kept a7_0 (inK _ (Nat.le_refl _) za7)
 have tf8:Hid (w8.there (w.heap.size+1) 0 7):=there_kept D7.out.f (inK _ (by omega) (by omega))
 have tg8:Hid (w8.there (w.heap.size+1+1) 0 2):=there_kept D7.out.g (inK _ (by omega) (by omega))
 have ce8:Hid (∃ z:Int,w8.cell? ⟨w.heap.size+1+1+1,0,none⟩=some (.int .i64 z)):=⟨0,cell_kept D7.out.e (inK _ (by omega) (by omega))⟩
 have fe8:w8.frozen? ⟨w.heap.size+1+1+1,0,none⟩=false:=frozen_kept D7.out.z (inK _ (by omega) (by omega))
 have zs:w7.heap.size<=w8.heap.size:=hk.size
 have zg:g<w8.heap.size:=by omega
 have z6:w6.heap.size<w8.heap.size:=by omega
 have z3:w3.heap.size<w8.heap.size:=by omega
 have z0:w.heap.size<w8.heap.size:=by omega
 have zE:w.heap.size+1+1+1<w8.heap.size:=by omega
 have HI:Hid (IsRamK w8 (fun j=>K0 j\/(w.heap.size<=j/\j<w7.heap.size)) rb has F M' (m+8)):=hI
 have HT8:Hid (Tab w8):=hT8
 have HK8:Hid (Kept K0 w w8):=(kept_of_below D7.out.b (fun j hj=>HX.out.1.dom j hj)).trans (hk.sub (fun j hj=>Or.inl hj))
 have ZF:Hid (w.heap.size+1+1+1<w7.heap.size):=l7
 have ZZ:Hid (g<w8.heap.size/\w6.heap.size<w8.heap.size/\w3.heap.size<w8.heap.size/\w.heap.size<w8.heap.size/\w.heap.size+1+1+1<w8.heap.size/\w.heap.size+1+1+1<w3.heap.size/\w.heap.size+1+1+1<w6.heap.size/\w.heap.size+1+1+1<g):=⟨zg,z6,z3,z0,zE,ZD3.out,by have:=ZD3.out;have:=ZQ6.out;omega,by have:=ZD3.out;have:=ZQ4.out;omega⟩
 clear inK wl hcx hcur hrow hlen hk hI hT8 C8 hg1 hg2 l7 zs zw4 zw6 D7 WY7 za3 a7_0 a7_1 a7_2 q7_0 q7_1 q7_2 q7_3 m7_0 m7_1 r7_0 r7_1 r7_2 za7 zq7 zm7 zr7 zg z6 z3 z0 zE mk ma cm fo hh co sp hc HL
 go_wp2_with fail
 have hwr:IntKind.i64.wrap 2=2:=by decide
 refine wp_region_noPanic ?_
 refine wp_region_held_drew (S:=fun c=>c.cell? ⟨g,24,none⟩=some (.int .u64 A)/\c.cell? ⟨g,25,none⟩=some (.int .u64 X)/\c.cell? ⟨g,26,none⟩=some (.bool y0)/\c.cell? ⟨g,27,none⟩=some (.bool y1)/\c.cell? ⟨g,28,none⟩=some (.bool y2)/\c.cell? ⟨g,29,none⟩=some (.bool y3)/\c.cell? ⟨g,30,none⟩=some (.bool y4)/\c.cell? ⟨g,31,none⟩=some (.bool y5)/\c.cell? ⟨g,32,none⟩=some (.bool y6)/\c.cell? ⟨g,33,none⟩=some (.bool y7)/\c.cell? ⟨g,34,none⟩=some (.int .i64 fl)/\c.cell? ⟨g,35,none⟩=some (.int .i64 lv)/\c.cell? ⟨w6.heap.size,0,none⟩=some (.bool pw)/\c.cell? ⟨w6.heap.size,1,none⟩=some (.bool pu)/\c.cell? ⟨w6.heap.size,2,none⟩=some (.bool px)/\c.cell? ⟨w3.heap.size,3,none⟩=some (.int .i64 p3)/\c.cell? ⟨w.heap.size,0,none⟩=some (.bool x)/\Hid (c.there (w.heap.size+1) 0 7)/\Hid (c.there (w.heap.size+1+1) 0 2)/\Hid (∃ z:Int,c.cell? ⟨w.heap.size+1+1+1,0,none⟩=some (.int .i64 z))/\c.frozen? ⟨w.heap.size+1+1+1,0,none⟩=false) (by kernel_rfl) ?_ (fun hHeld=> ?_)
 . exact ⟨l8_0,l8_1,l8_2,l8_3,l8_4,l8_5,l8_6,l8_7,l8_8,l8_9,l8_10,l8_11,r8_0,r8_1,r8_2,q8_3,a8_0,tf8.out,tg8.out,ce8.out,fe8⟩
 clear l8_0 l8_1 l8_2 l8_3 l8_4 l8_5 l8_6 l8_7 l8_8 l8_9 l8_10 l8_11 r8_0 r8_1 r8_2 q8_3 a8_0 tf8 tg8 ce8 fe8
 refine tk 0 55 ?_ rfl (Or.inl ⟨by rfl,?_⟩) ?_
 rotate_left
 . intro w hSw;(try dsimp only at hSw);go_simp;(try with_reducible rfl)
 try simp only [Act.put,z1,z2,z3]
 refine tk 1 56 ?_ rfl (Or.inl ⟨by rfl,?_⟩) ?_
 rotate_left
 . intro w hSw;(try dsimp only at hSw);go_simp;(try with_reducible rfl)
 try simp only [Act.put,z1,z2,z3]
 refine tk 2 57 ?_ rfl (Or.inl ⟨by rfl,?_⟩) ?_
 rotate_left
 . intro w hSw;(try dsimp only at hSw);go_simp;(try with_reducible rfl)
 try simp only [Act.put,z1,z2,z3]
 refine tk 3 58 ?_ rfl (Or.inl ⟨by rfl,?_⟩) ?_
 rotate_left
 . intro w hSw;(try dsimp only at hSw);go_simp;(try with_reducible rfl)
 try simp only [Act.put,z1,z2,z3]
 refine tk 4 59 ?_ rfl (Or.inl ⟨by rfl,?_⟩) ?_
 rotate_left
 . intro w hSw;(try dsimp only at hSw);go_simp;(try with_reducible rfl)
 try simp only [Act.put,z1,z2,z3]
 refine tk 5 60 ?_ rfl (Or.inl ⟨by rfl,?_⟩) ?_
 rotate_left
 . intro w hSw;(try dsimp only at hSw);go_simp;(try with_reducible rfl)
 try simp only [Act.put,z1,z2,z3]
 refine tk 6 61 ?_ rfl (Or.inl ⟨by rfl,?_⟩) ?_
 rotate_left
 . intro w hSw;(try dsimp only at hSw);go_simp;(try with_reducible rfl)
 try simp only [Act.put,z1,z2,z3]
 refine tk 7 62 ?_ rfl (Or.inl ⟨by rfl,?_⟩) ?_
 rotate_left
 . intro w hSw;(try dsimp only at hSw);go_simp;(try with_reducible rfl)
 try simp only [Act.put,z1,z2,z3]
 refine tk 8 63 ?_ rfl (Or.inl ⟨by rfl,?_⟩) ?_
 rotate_left
 . intro w hSw;(try dsimp only at hSw);go_simp;(try with_reducible rfl)
 try simp only [Act.put,z1,z2,z3]
 refine tk 9 64 ?_ rfl (Or.inl ⟨by rfl,?_⟩) ?_
 rotate_left
 . intro w hSw;(try dsimp only at hSw);go_simp;(try with_reducible rfl)
 try simp only [Act.put,z1,z2,z3]
 refine tk 10 65 ?_ rfl (Or.inl ⟨by rfl,?_⟩) ?_
 rotate_left
 . intro w hSw;(try dsimp only at hSw);go_simp;(try with_reducible rfl)
 try simp only [Act.put,z1,z2,z3]
 refine tk 12 67 ?_ rfl (Or.inl ⟨by rfl,?_⟩) ?_
 rotate_left
 . intro w hSw;(try dsimp only at hSw);go_simp;(try with_reducible rfl)
 try simp only [Act.put,z1,z2,z3]
 refine wpAnyH_ready (rs:=[11]) (by kernel_rfl) (by simp) ?_
 refine AllReadyH.cons (o:=⟨some 66,_,_,_,_,none⟩) rfl (fun K hK=> ?_) AllReadyH.nil
 go_simp
 go_wp2_with (go_at_call 55;refine (te.out _).mono ?_;rintro e w9 ⟨rfl,hb⟩)
 obtain ⟨s0,s1,s2,s3,s4,s5,s6,s7,s8,s9,s10,s11,s12,s13,s14,s15,s16,tf,tg,ce,fe⟩:=hHeld
 have hb9:Below w8.heap.size w8 w9:=below_drew8 hb
 clear hb
 obtain ⟨zg,z6,z3,z0,zE,e3,e6,eg⟩:=ZZ.out
 refine hK.out _ _ ?_ (fun hHeld1=> ?_)
 . exact ⟨carry0 hb9 zg s0,carry0 hb9 zg s1,carry0 hb9 zg s2,carry0 hb9 zg s3,carry0 hb9 zg s4,carry0 hb9 zg s5,carry0 hb9 zg s6,carry0 hb9 zg s7,carry0 hb9 zg s8,carry0 hb9 zg s9,carry0 hb9 zg s10,carry0 hb9 zg s11,carry0 hb9 z6 s12,carry0 hb9 z6 s13,carry0 hb9 z6 s14,carry0 hb9 z3 s15,carry0 hb9 z0 s16,there_below (show w8.there _ 0 7 from tf.out) hb9 (by omega),there_below (show w8.there _ 0 2 from tg.out) hb9 (by omega),⟨ce.out.choose,carry0 hb9 zE ce.out.choose_spec⟩,(hb9.frozen (p:=⟨w.heap.size+1+1+1,0,none⟩) zE).trans fe⟩
 have HB9:Hid (Below w8.heap.size w8 w9):=hb9
 clear hK K hb9 s0 s1 s2 s3 s4 s5 s6 s7 s8 s9 s10 s11 s12 s13 s14 s15 s16 tf tg ce fe zg z6 z3 z0 zE e3 e6 eg
 try simp only [Act.put,z1,z2,z3]
 have h1:=hHeld1
 clear hHeld1
 obtain ⟨s0,s1,s2,s3,s4,s5,s6,s7,s8,s9,s10,s11,s12,s13,s14,s15,s16,tf,tg,ce,fe⟩:=h1
 have hHeld1:=(show (fun c=>c.cell? ⟨g,24,none⟩=some (.int .u64 A)/\c.cell? ⟨g,25,none⟩=some (.int .u64 X)/\c.cell? ⟨g,26,none⟩=some (.bool y0)/\c.cell? ⟨g,27,none⟩=some (.bool y1)/\c.cell? ⟨g,28,none⟩=some (.bool y2)/\c.cell? ⟨g,29,none⟩=some (.bool y3)/\c.cell? ⟨g,30,none⟩=some (.bool y4)/\c.cell? ⟨g,31,none⟩=some (.bool y5)/\c.cell? ⟨g,32,none⟩=some (.bool y6)/\c.cell? ⟨g,33,none⟩=some (.bool y7)/\c.cell? ⟨g,34,none⟩=some (.int .i64 fl)/\c.cell? ⟨g,35,none⟩=some (.int .i64 lv)/\c.cell? ⟨w6.heap.size,0,none⟩=some (.bool pw)/\c.cell? ⟨w6.heap.size,1,none⟩=some (.bool pu)/\c.cell? ⟨w6.heap.size,2,none⟩=some (.bool px)/\c.cell? ⟨w3.heap.size,3,none⟩=some (.int .i64 p3)/\c.cell? ⟨w.heap.size,0,none⟩=some (.bool x)/\Hid (c.there (w.heap.size+1) 0 7)/\Hid (c.there (w.heap.size+1+1) 0 2)/\Hid (∃ z:Int,c.cell? ⟨w.heap.size+1+1+1,0,none⟩=some (.int .i64 z))/\c.frozen? ⟨w.heap.size+1+1+1,0,none⟩=false) w9 from ⟨s0,s1,s2,s3,s4,s5,s6,s7,s8,s9,s10,s11,s12,s13,s14,s15,s16,tf,tg,ce,fe⟩)
 obtain ⟨zg,z6,z3,z0,zE,e3,e6,eg⟩:=ZZ.out
 refine wpAnyH_ready (rs:=[13]) (by kernel_rfl) (by simp) ?_
 refine AllReadyH.cons (o:=⟨none,.store 56 (.tmp 8) (.tmp 66),_,_,_,none⟩) rfl (fun K hK=> ?_) AllReadyH.nil
 refine wanted_mp rfl ?_
 refine wp_store_mid _ _ _ rfl (w.heap.size+1) 0 #[.int .i64 fr,.bool pw,.bool pu,.bool px,.bool gg,.bool lg,.bool dd] rfl rfl tf.out found_info (by simp [Value.oneCell']) ?_
 refine hK.out _ _ ?_ (fun hHeld2=> ?_)
 . exact ⟨(cell_setCells_ne (by exact (show (g:Nat)≠w.heap.size+1 by omega))).trans s0,(cell_setCells_ne (by exact (show (g:Nat)≠w.heap.size+1 by omega))).trans s1,(cell_setCells_ne (by exact (show (g:Nat)≠w.heap.size+1 by omega))).trans s2,(cell_setCells_ne (by exact (show (g:Nat)≠w.heap.size+1 by omega))).trans s3,(cell_setCells_ne (by exact (show (g:Nat)≠w.heap.size+1 by omega))).trans s4,(cell_setCells_ne (by exact (show (g:Nat)≠w.heap.size+1 by omega))).trans s5,(cell_setCells_ne (by exact (show (g:Nat)≠w.heap.size+1 by omega))).trans s6,(cell_setCells_ne (by exact (show (g:Nat)≠w.heap.size+1 by omega))).trans s7,(cell_setCells_ne (by exact (show (g:Nat)≠w.heap.size+1 by omega))).trans s8,(cell_setCells_ne (by exact (show (g:Nat)≠w.heap.size+1 by omega))).trans s9,(cell_setCells_ne (by exact (show (g:Nat)≠w.heap.size+1 by omega))).trans s10,(cell_setCells_ne (by exact (show (g:Nat)≠w.heap.size+1 by omega))).trans s11,(cell_setCells_ne (by exact (show (w6.heap.size:Nat)≠w.heap.size+1 by omega))).trans s12,(cell_setCells_ne (by exact (show (w6.heap.size:Nat)≠w.heap.size+1 by omega))).trans s13,(cell_setCells_ne (by exact (show (w6.heap.size:Nat)≠w.heap.size+1 by omega))).trans s14,(cell_setCells_ne (by exact (show (w3.heap.size:Nat)≠w.heap.size+1 by omega))).trans s15,(cell_setCells_ne (by exact (show (w.heap.size:Nat)≠w.heap.size+1 by omega))).trans s16,World.there_setCells tf.out _ _ _,World.there_setCells tg.out _ _ _,⟨ce.out.choose,(cell_setCells_ne (by exact (show (w.heap.size+1+1+1:Nat)≠w.heap.size+1 by omega))).trans ce.out.choose_spec⟩,(World.frozen?_setCells _ _ _ _ _).trans fe⟩
 clear hK K
 try simp only [Act.put,z1,z2,z3]
 have Q1:Hid (Kept (fun k=>k≠w.heap.size+1) w9 (w9.setCells (w.heap.size+1) 0 [.int .i64 fr,.bool pw,.bool pu,.bool px,.bool gg,.bool lg,.bool dd])):=kept_setCells _ _ (fun h=>h rfl) _ 0 w9
 have R1:Hid ((w9.setCells (w.heap.size+1) 0 [.int .i64 fr,.bool pw,.bool pu,.bool px,.bool gg,.bool lg,.bool dd]).rangeAt (w.heap.size+1) 0 [.int .i64 fr,.bool pw,.bool pu,.bool px,.bool gg,.bool lg,.bool dd]):=World.rangeAt_setCells_same w9 _ 0 _ tf.out
 clear hHeld1 s0 s1 s2 s3 s4 s5 s6 s7 s8 s9 s10 s11 s12 s13 s14 s15 s16 tf tg ce fe
 simp only [List.toList_toArray] at hHeld2 |-
 generalize w9.setCells (w.heap.size+1) 0 [.int .i64 fr,.bool pw,.bool pu,.bool px,.bool gg,.bool lg,.bool dd]=X1 at hHeld2 Q1 R1 |-
 obtain ⟨s0,s1,s2,s3,s4,s5,s6,s7,s8,s9,s10,s11,s12,s13,s14,s15,s16,tf,tg,ce,fe⟩:=hHeld2
 have hHeld2:=(show (fun c=>c.cell? ⟨g,24,none⟩=some (.int .u64 A)/\c.cell? ⟨g,25,none⟩=some (.int .u64 X)/\c.cell? ⟨g,26,none⟩=some (.bool y0)/\c.cell? ⟨g,27,none⟩=some (.bool y1)/\c.cell? ⟨g,28,none⟩=some (.bool y2)/\c.cell? ⟨g,29,none⟩=some (.bool y3)/\c.cell? ⟨g,30,none⟩=some (.bool y4)/\c.cell? ⟨g,31,none⟩=some (.bool y5)/\c.cell? ⟨g,32,none⟩=some (.bool y6)/\c.cell? ⟨g,33,none⟩=some (.bool y7)/\c.cell? ⟨g,34,none⟩=some (.int .i64 fl)/\c.cell? ⟨g,35,none⟩=some (.int .i64 lv)/\c.cell? ⟨w6.heap.size,0,none⟩=some (.bool pw)/\c.cell? ⟨w6.heap.size,1,none⟩=some (.bool pu)/\c.cell? ⟨w6.heap.size,2,none⟩=some (.bool px)/\c.cell? ⟨w3.heap.size,3,none⟩=some (.int .i64 p3)/\c.cell? ⟨w.heap.size,0,none⟩=some (.bool x)/\Hid (c.there (w.heap.size+1) 0 7)/\Hid (c.there (w.heap.size+1+1) 0 2)/\Hid (∃ z:Int,c.cell? ⟨w.heap.size+1+1+1,0,none⟩=some (.int .i64 z))/\c.frozen? ⟨w.heap.size+1+1+1,0,none⟩=false) X1 from ⟨s0,s1,s2,s3,s4,s5,s6,s7,s8,s9,s10,s11,s12,s13,s14,s15,s16,tf,tg,ce,fe⟩)
 refine wpAnyH_ready (rs:=[14]) (by kernel_rfl) (by simp) ?_
 refine AllReadyH.cons (o:=⟨none,.store 58 (.tmp 9) (.tmp 67),_,_,_,none⟩) rfl (fun K hK=> ?_) AllReadyH.nil
 refine wanted_mp rfl ?_
 refine wp_store_mid _ _ _ rfl (w.heap.size+1+1) 0 #[.int .u64 0,.int .i64 0] rfl rfl tg.out fault_info (by simp [Value.oneCell']) ?_
 refine hK.out _ _ ?_ (fun hHeld3=> ?_)
 . exact ⟨(cell_setCells_ne (by exact (show (g:Nat)≠w.heap.size+1+1 by omega))).trans s0,(cell_setCells_ne (by exact (show (g:Nat)≠w.heap.size+1+1 by omega))).trans s1,(cell_setCells_ne (by exact (show (g:Nat)≠w.heap.size+1+1 by omega))).trans s2,(cell_setCells_ne (by exact (show (g:Nat)≠w.heap.size+1+1 by omega))).trans s3,(cell_setCells_ne (by exact (show (g:Nat)≠w.heap.size+1+1 by omega))).trans s4,(cell_setCells_ne (by exact (show (g:Nat)≠w.heap.size+1+1 by omega))).trans s5,(cell_setCells_ne (by exact (show (g:Nat)≠w.heap.size+1+1 by omega))).trans s6,(cell_setCells_ne (by exact (show (g:Nat)≠w.heap.size+1+1 by omega))).trans s7,(cell_setCells_ne (by exact (show (g:Nat)≠w.heap.size+1+1 by omega))).trans s8,(cell_setCells_ne (by exact (show (g:Nat)≠w.heap.size+1+1 by omega))).trans s9,(cell_setCells_ne (by exact (show (g:Nat)≠w.heap.size+1+1 by omega))).trans s10,(cell_setCells_ne (by exact (show (g:Nat)≠w.heap.size+1+1 by omega))).trans s11,(cell_setCells_ne (by exact (show (w6.heap.size:Nat)≠w.heap.size+1+1 by omega))).trans s12,(cell_setCells_ne (by exact (show (w6.heap.size:Nat)≠w.heap.size+1+1 by omega))).trans s13,(cell_setCells_ne (by exact (show (w6.heap.size:Nat)≠w.heap.size+1+1 by omega))).trans s14,(cell_setCells_ne (by exact (show (w3.heap.size:Nat)≠w.heap.size+1+1 by omega))).trans s15,(cell_setCells_ne (by exact (show (w.heap.size:Nat)≠w.heap.size+1+1 by omega))).trans s16,World.there_setCells tf.out _ _ _,World.there_setCells tg.out _ _ _,⟨ce.out.choose,(cell_setCells_ne (by exact (show (w.heap.size+1+1+1:Nat)≠w.heap.size+1+1 by omega))).trans ce.out.choose_spec⟩,(World.frozen?_setCells _ _ _ _ _).trans fe⟩
 clear hK K
 try simp only [Act.put,z1,z2,z3]
 have Q2:Hid (Kept (fun k=>k≠w.heap.size+1+1) X1 (X1.setCells (w.heap.size+1+1) 0 [.int .u64 0,.int .i64 0])):=kept_setCells _ _ (fun h=>h rfl) _ 0 X1
 have R2:Hid ((X1.setCells (w.heap.size+1+1) 0 [.int .u64 0,.int .i64 0]).rangeAt (w.heap.size+1+1) 0 [.int .u64 0,.int .i64 0]):=World.rangeAt_setCells_same X1 _ 0 _ tg.out
 have R1':Hid ((X1.setCells (w.heap.size+1+1) 0 [.int .u64 0,.int .i64 0]).rangeAt (w.heap.size+1) 0 [.int .i64 fr,.bool pw,.bool pu,.bool px,.bool gg,.bool lg,.bool dd]):=World.rangeAt_setCells_apart R1.out _ 0 _ (Or.inl (by omega))
 clear hHeld2 s0 s1 s2 s3 s4 s5 s6 s7 s8 s9 s10 s11 s12 s13 s14 s15 s16 tf tg ce fe R1
 simp only [List.toList_toArray] at hHeld3 |-
 generalize X1.setCells (w.heap.size+1+1) 0 [.int .u64 0,.int .i64 0]=X2 at hHeld3 Q2 R2 R1' |-
 obtain ⟨s0,s1,s2,s3,s4,s5,s6,s7,s8,s9,s10,s11,s12,s13,s14,s15,s16,tf,tg,ce,fe⟩:=hHeld3
 obtain ⟨z,c2⟩:=ce.out
 have Q3:Hid (Kept (fun k=>k≠w.heap.size+1+1+1) X2 (X2.setCell ⟨w.heap.size+1+1+1,0,none⟩ (.int .i64 0))):=kept_setCell1 _ _ (fun h=>h rfl) 0 _ X2
 have RA:Hid ((X2.setCell ⟨w.heap.size+1+1+1,0,none⟩ (.int .i64 0)).rangeAt (w.heap.size+1) 0 [.int .i64 fr,.bool pw,.bool pu,.bool px,.bool gg,.bool lg,.bool dd]):=World.rangeAt_setCells_apart R1'.out (w.heap.size+1+1+1) 0 [.int .i64 0] (Or.inl (by omega))
 have RB:Hid ((X2.setCell ⟨w.heap.size+1+1+1,0,none⟩ (.int .i64 0)).rangeAt (w.heap.size+1+1) 0 [.int .u64 0,.int .i64 0]):=World.rangeAt_setCells_apart R2.out (w.heap.size+1+1+1) 0 [.int .i64 0] (Or.inl (by omega))
 have RC:Hid ((X2.setCell ⟨w.heap.size+1+1+1,0,none⟩ (.int .i64 0)).rangeAt (w.heap.size+1+1+1) 0 [.int .i64 0]):=World.rangeAt_setCells_same X2 (w.heap.size+1+1+1) 0 [.int .i64 0] (fun j hj=>by
  obtain rfl:j=0:=by simp at hj;omega
  exact ⟨by rw [Nat.zero_add,c2];rfl,fe⟩)
 clear R1' R2
 refine wpAnyH_ready (rs:=[15]) (by kernel_rfl) (by simp) ?_
 refine AllReadyH.cons (o:=⟨none,.store 31 (.tmp 10) (.const (.int .i64 0)),_,_,_,none⟩) rfl (fun K hK=> ?_) AllReadyH.nil
 go_simp
 refine hK.out _ _ ?_ (fun hHeld4=> ?_)
 . exact ⟨(World.cell?_setCell_other _ _ _ _ (by intro e;injection e with e1;omega)).trans s0,(World.cell?_setCell_other _ _ _ _ (by intro e;injection e with e1;omega)).trans s1,(World.cell?_setCell_other _ _ _ _ (by intro e;injection e with e1;omega)).trans s2,(World.cell?_setCell_other _ _ _ _ (by intro e;injection e with e1;omega)).trans s3,(World.cell?_setCell_other _ _ _ _ (by intro e;injection e with e1;omega)).trans s4,(World.cell?_setCell_other _ _ _ _ (by intro e;injection e with e1;omega)).trans s5,(World.cell?_setCell_other _ _ _ _ (by intro e;injection e with e1;omega)).trans s6,(World.cell?_setCell_other _ _ _ _ (by intro e;injection e with e1;omega)).trans s7,(World.cell?_setCell_other _ _ _ _ (by intro e;injection e with e1;omega)).trans s8,(World.cell?_setCell_other _ _ _ _ (by intro e;injection e with e1;omega)).trans s9,(World.cell?_setCell_other _ _ _ _ (by intro e;injection e with e1;omega)).trans s10,(World.cell?_setCell_other _ _ _ _ (by intro e;injection e with e1;omega)).trans s11,(World.cell?_setCell_other _ _ _ _ (by intro e;injection e with e1;omega)).trans s12,(World.cell?_setCell_other _ _ _ _ (by intro e;injection e with e1;omega)).trans s13,(World.cell?_setCell_other _ _ _ _ (by intro e;injection e with e1;omega)).trans s14,(World.cell?_setCell_other _ _ _ _ (by intro e;injection e with e1;omega)).trans s15,(World.cell?_setCell_other _ _ _ _ (by intro e;injection e with e1;omega)).trans s16,World.there_setCells tf.out (w.heap.size+1+1+1) 0 [.int .i64 0],World.there_setCells tg.out (w.heap.size+1+1+1) 0 [.int .i64 0],⟨0,by have:=RC.out 0 _ rfl;rw [Nat.zero_add] at this;exact this⟩,(World.frozen?_setCell _ _ _ _).trans fe⟩
 clear hK K
 try simp only [Act.put,z1,z2,z3]
 refine wpAnyH_done (by kernel_rfl) ?_ _
 refine NoPanic.normal ?_
 clear hHeld4 c2 ce s0 s1 s2 s3 s4 s5 s6 s7 s8 s9 s10 s11 s12 s13 s14 s15 s16 tf tg fe
 generalize X2.setCell ⟨w.heap.size+1+1+1,0,none⟩ (.int .i64 0)=X3 at Q3 RA RB RC |-
 go_wp2_with fail
 refine walk_end w X3 fr pw pu px gg lg dd _ _ rfl rfl rfl RA.out RB.out RC.out ?_
 have zF:=ZF.out
 have dom:=HX.out.1.dom
 obtain ⟨S,hS,hSK⟩:=HX.out.2
 have lS: ∀ j,K0 j->j<w.heap.size:=dom
 have k9:Kept K0 w8 w9:=kept_of_below HB9.out (fun j hj=>Nat.lt_of_lt_of_le (lS j hj) HK8.out.size)
 have kX:Kept K0 w8 X3:=k9.trans ((Q1.out.sub (fun j hj=>by have:=lS j hj;omega)).trans ((Q2.out.sub (fun j hj=>by have:=lS j hj;omega)).trans (Q3.out.sub (fun j hj=>by have:=lS j hj;omega))))
 have kW:Kept K0 w X3:=HK8.out.trans kX
 have nS: ∀ f,w.heap.size<=f->f∉S:=fun f hf hs=>by have:=lS f (hSK f hs);omega
 have h8:=HI.out.toS (hS.keep (fun s hs=>HK8.out.block s (hSK s hs)) HK8.out.size)
 have h9:=h8.poke (grown_of_below' HB9.out) (fun f hf=>by cases hf)
 have h10:=h9.poke (grown_of_but Q1.out) (fun f hf=>by cases hf;exact ⟨Or.inr ⟨by omega,by omega⟩,nS _ (by omega)⟩)
 have h11:=h10.poke (grown_of_but Q2.out) (fun f hf=>by cases hf;exact ⟨Or.inr ⟨by omega,by omega⟩,nS _ (by omega)⟩)
 have h12:=h11.poke (grown_of_but Q3.out) (fun f hf=>by cases hf;exact ⟨Or.inr ⟨by omega,by omega⟩,nS _ (by omega)⟩)
 exact ⟨rfl,h12.back (fun j hj=>Or.inl hj) hSK (fun j hj=>Nat.lt_of_lt_of_le (lS j hj) kW.size),kW,HT8.out.kept kX HK0.out⟩
set_option maxHeartbeats 2000000 in
theorem walk_ok4 {rb:Nat} (root addr p0 p1 p2 p3 po cd:Int) (x u f:Bool)
 (hc:Hid (∀ w:World,Calls Tryd.prog 23 #[.int .u64 addr] w fun e w'=>e=.returned (.bool true)/\w'=w))
 (sp:Hid (∀ w:World,Calls Tryd.prog 49 #[.int .u64 addr] w fun e w'=>e=.returned (.tuple #[.agg #[.int .i64 p0,.int .i64 p1,.int .i64 p2,.int .i64 p3],.int .i64 po])/\Below w.heap.size w w'))
 (co:Hid (∀ w:World,Calls Tryd.prog 50 #[.agg #[.bool x,.bool u,.bool f]] w fun e w'=>e=.returned (.int .i64 cd)/\Below w.heap.size w w')) (w:World)
 (hh:Hid (∀ W:World,Below w.heap.size w W->Calls Tryd.prog 48 #[.pointer (some ⟨rb,0,none⟩),.int .i64 root] W fun e w'=>e=.returned (.bool true)/\Below W.heap.size W w'))
 (xs:List Value) (pw pu px:Bool) (fo:Hid (∀ W:World,Below w.heap.size w W->Calls Tryd.prog 51 #[.pointer (some ⟨rb,0,none⟩),.int .i64 root,.agg #[.int .i64 p0,.int .i64 p1,.int .i64 p2,.int .i64 p3],.agg #[.int .u64 addr,.int .i64 cd]] W fun e w'=> ∃ v,e=.returned v/\Way w' (W.heap.size+2) v 4 xs/\Below W.heap.size W w'))
 (cm:Hid (∀ (W:World) (base:Nat) (v:Value),Way W base v 4 xs->Calls Tryd.prog 52 #[v] W fun e w'=>e=.returned (.agg #[.bool pw,.bool pu,.bool px])/\Below W.heap.size W w'))
 {K0:Nat->Prop} {has:Int->Bool} {F:Int} {M:Int->Int} {m:Nat} (M':Int->Int) (hX:RamX w K0 rb has F M m) (ht:Tab w) (k00:K0 0)
 (A X fl lv fr:Int) (y0 y1 y2 y3 y4 y5 y6 y7 gg lg dd:Bool) (hl0:xs[36]? =some (.int .u64 A)) (hl1:xs[37]? =some (.int .u64 X)) (hl2:xs[38]? =some (.bool y0)) (hl3:xs[39]? =some (.bool y1)) (hl4:xs[40]? =some (.bool y2)) (hl5:xs[41]? =some (.bool y3)) (hl6:xs[42]? =some (.bool y4)) (hl7:xs[43]? =some (.bool y5)) (hl8:xs[44]? =some (.bool y6)) (hl9:xs[45]? =some (.bool y7)) (hl10:xs[46]? =some (.int .i64 fl)) (hl11:xs[47]? =some (.int .i64 lv))
 (ma:Hid (∀ W:World,Calls Tryd.prog 25 #[.agg #[.bool pw,.bool pu,.bool px],.agg #[.bool x,.bool u,.bool f]] W fun e w'=>e=.returned (.bool true)/\Below W.heap.size W w'))
 (mk:Hid (∀ (W:World) (K:Nat->Prop) (base:Nat) (v:Value),Way W base v 4 xs->(∀ j,base<=j->j<W.heap.size->K j)->K 0->Tab W->IsRamK W K rb has F M m->Calls Tryd.prog 54 #[.pointer (some ⟨rb,0,none⟩),v,.bool x] W fun e w'=>e=.returned (.tuple #[])/\IsRamK w' K rb has F M' (m+8)/\Kept K W w'/\Tab w'))
 (te:Hid (∀ W:World,Calls Tryd.prog 55 #[.agg #[.int .u64 A,.int .u64 X,.bool y0,.bool y1,.bool y2,.bool y3,.bool y4,.bool y5,.bool y6,.bool y7,.int .i64 fl,.int .i64 lv],.agg #[.bool pw,.bool pu,.bool px],.int .i64 p3,.bool x] W fun e w'=>e=.returned (.agg #[.int .i64 fr,.bool pw,.bool pu,.bool px,.bool gg,.bool lg,.bool dd])/\Below W.heap.size W w')) :
 Calls Tryd.prog 22 #[.pointer (some ⟨rb,0,none⟩),.int .i64 root,.int .u64 addr,.agg #[.bool x,.bool u,.bool f]] w fun e w'=>e=.returned (.tuple #[.agg #[.int .i64 fr,.bool pw,.bool pu,.bool px,.bool gg,.bool lg,.bool dd],.agg #[.int .u64 0,.int .i64 0],.int .i64 0])/\RamX w' K0 rb has F M' (m+8)/\Kept K0 w w'/\Tab w':=by
 have HX:Hid (RamX w K0 rb has F M m):=hX
 have HT:Hid (Tab w):=ht
 have HK0:Hid (K0 0):=k00
 have HL:Hid (∀ i:Nat,i<12->xs[36+i]? =(#[.int .u64 A,.int .u64 X,.bool y0,.bool y1,.bool y2,.bool y3,.bool y4,.bool y5,.bool y6,.bool y7,.int .i64 fl,.int .i64 lv]:Array Value)[i]?):=fun i hi=>by
  match i,hi with
  | 0, _ => exact hl0
  | 1, _ => exact hl1
  | 2, _ => exact hl2
  | 3, _ => exact hl3
  | 4, _ => exact hl4
  | 5, _ => exact hl5
  | 6, _ => exact hl6
  | 7, _ => exact hl7
  | 8, _ => exact hl8
  | 9, _ => exact hl9
  | 10, _ => exact hl10
  | 11, _ => exact hl11
 clear hX ht k00 hl0 hl1 hl2 hl3 hl4 hl5 hl6 hl7 hl8 hl9 hl10 hl11
 have hmf: ∀ (fn:Fn) (first cap:Array Value) (w:World),(Instr.makeFunc fn first cap).run Tryd.prog w=.ok (.func fn first cap) w:=fun _ _ _ _=>rfl
 go_enter_defers Tryd.func22,Tryd.ntmps22
 go_wp2_with fail
 refine (hc.out _).mono ?_
 rintro e w1 ⟨rfl,rfl⟩
 go_wp2_with fail
 refine (hh.out _ (Door.made w _).b).mono ?_
 rintro e w2 ⟨rfl,hb⟩
 have D2:Hid (Door w w2):=(Door.made w _).next hb
 have a2_0:w2.cell? ⟨w.heap.size,0,none⟩=some (.bool x):=carry0 hb (sz4 w _ _ _ _) (Go.Joins.cell_of_block (box4 w _ _ _ _) 0)
 have a2_1:w2.cell? ⟨w.heap.size,1,none⟩=some (.bool u):=carry0 hb (sz4 w _ _ _ _) (Go.Joins.cell_of_block (box4 w _ _ _ _) 1)
 have a2_2:w2.cell? ⟨w.heap.size,2,none⟩=some (.bool f):=carry0 hb (sz4 w _ _ _ _) (Go.Joins.cell_of_block (box4 w _ _ _ _) 2)
 have za2:w.heap.size<w2.heap.size:=Nat.lt_of_lt_of_le (sz4 w _ _ _ _) hb.size
 clear hb
 go_wp2_with fail
 refine (sp.out _).mono ?_
 rintro e w3 ⟨rfl,hb⟩
 have D3:Hid (Door w w3):=D2.out.next hb
 have a3_0:w3.cell? ⟨w.heap.size,0,none⟩=some (.bool x):=carry0 hb za2 a2_0
 have a3_1:w3.cell? ⟨w.heap.size,1,none⟩=some (.bool u):=carry0 hb za2 a2_1
 have a3_2:w3.cell? ⟨w.heap.size,2,none⟩=some (.bool f):=carry0 hb za2 a2_2
 have za3:w.heap.size<w3.heap.size:=Nat.lt_of_lt_of_le za2 hb.size
 clear hb D2 a2_0 a2_1 a2_2 za2
 go_wp2_with fail
 refine (co.out _).mono ?_
 rintro e w4 ⟨rfl,hb⟩
 have D4:Hid (Door w w4):=(D3.out.next (Go.Joins.below_alloc1 _ _)).next hb
 have a4_0:w4.cell? ⟨w.heap.size,0,none⟩=some (.bool x):=carry1 hb za3 a3_0
 have a4_1:w4.cell? ⟨w.heap.size,1,none⟩=some (.bool u):=carry1 hb za3 a3_1
 have a4_2:w4.cell? ⟨w.heap.size,2,none⟩=some (.bool f):=carry1 hb za3 a3_2
 have q4_0:w4.cell? ⟨w3.heap.size,0,none⟩=some (.int .i64 p0):=carryN hb
 have q4_1:w4.cell? ⟨w3.heap.size,1,none⟩=some (.int .i64 p1):=carryN hb
 have q4_2:w4.cell? ⟨w3.heap.size,2,none⟩=some (.int .i64 p2):=carryN hb
 have q4_3:w4.cell? ⟨w3.heap.size,3,none⟩=some (.int .i64 p3):=carryN hb
 have za4:w.heap.size<w4.heap.size:=Nat.lt_of_lt_of_le (old1 za3 _) hb.size
 have zq4:w3.heap.size<w4.heap.size:=Nat.lt_of_lt_of_le (szA _ _) hb.size
 have ZD3:Hid (w.heap.size+1+1+1<w3.heap.size):=D3.out.l
 have ZQ4:Hid (w3.heap.size<w4.heap.size):=zq4
 clear hb D3 a3_0 a3_1 a3_2
 go_wp2_with fail
 have ZW4:Hid (w.heap.size<w4.heap.size):=za4
 refine (fo.out _ (D4.out.next (Go.Joins.below_alloc1 _ _)).b).mono ?_
 rintro e w5 ⟨v,rfl,hway,hb⟩
 have D5:Hid (Door w w5):=(D4.out.next (Go.Joins.below_alloc1 _ _)).next hb
 have WY5:Hid (Way w5 (w4.heap.size+1+2) v 4 xs):=by have:=hway;rwa [World.size_alloc] at this
 have a5_0:w5.cell? ⟨w.heap.size,0,none⟩=some (.bool x):=carry1 hb za4 a4_0
 have a5_1:w5.cell? ⟨w.heap.size,1,none⟩=some (.bool u):=carry1 hb za4 a4_1
 have a5_2:w5.cell? ⟨w.heap.size,2,none⟩=some (.bool f):=carry1 hb za4 a4_2
 have q5_0:w5.cell? ⟨w3.heap.size,0,none⟩=some (.int .i64 p0):=carry1 hb zq4 q4_0
 have q5_1:w5.cell? ⟨w3.heap.size,1,none⟩=some (.int .i64 p1):=carry1 hb zq4 q4_1
 have q5_2:w5.cell? ⟨w3.heap.size,2,none⟩=some (.int .i64 p2):=carry1 hb zq4 q4_2
 have q5_3:w5.cell? ⟨w3.heap.size,3,none⟩=some (.int .i64 p3):=carry1 hb zq4 q4_3
 have m5_0:w5.cell? ⟨w4.heap.size,0,none⟩=some (.int .u64 addr):=carryN hb
 have m5_1:w5.cell? ⟨w4.heap.size,1,none⟩=some (.int .i64 cd):=carryN hb
 have za5:w.heap.size<w5.heap.size:=Nat.lt_of_lt_of_le (old1 za4 _) hb.size
 have zq5:w3.heap.size<w5.heap.size:=Nat.lt_of_lt_of_le (old1 zq4 _) hb.size
 have zm5:w4.heap.size<w5.heap.size:=Nat.lt_of_lt_of_le (szA _ _) hb.size
 clear hb hway D4 a4_0 a4_1 a4_2 q4_0 q4_1 q4_2 q4_3 za4 zq4
 go_wp2_with fail
 refine (cm.out _ _ _ WY5.out).mono ?_
 rintro e w6 ⟨rfl,hb⟩
 have D6:Hid (Door w w6):=D5.out.next hb
 have WY6:Hid (Way w6 (w4.heap.size+1+2) v 4 xs):=WY5.out.keep hb
 have a6_0:w6.cell? ⟨w.heap.size,0,none⟩=some (.bool x):=carry0 hb za5 a5_0
 have a6_1:w6.cell? ⟨w.heap.size,1,none⟩=some (.bool u):=carry0 hb za5 a5_1
 have a6_2:w6.cell? ⟨w.heap.size,2,none⟩=some (.bool f):=carry0 hb za5 a5_2
 have q6_0:w6.cell? ⟨w3.heap.size,0,none⟩=some (.int .i64 p0):=carry0 hb zq5 q5_0
 have q6_1:w6.cell? ⟨w3.heap.size,1,none⟩=some (.int .i64 p1):=carry0 hb zq5 q5_1
 have q6_2:w6.cell? ⟨w3.heap.size,2,none⟩=some (.int .i64 p2):=carry0 hb zq5 q5_2
 have q6_3:w6.cell? ⟨w3.heap.size,3,none⟩=some (.int .i64 p3):=carry0 hb zq5 q5_3
 have m6_0:w6.cell? ⟨w4.heap.size,0,none⟩=some (.int .u64 addr):=carry0 hb zm5 m5_0
 have m6_1:w6.cell? ⟨w4.heap.size,1,none⟩=some (.int .i64 cd):=carry0 hb zm5 m5_1
 have za6:w.heap.size<w6.heap.size:=Nat.lt_of_lt_of_le za5 hb.size
 have zq6:w3.heap.size<w6.heap.size:=Nat.lt_of_lt_of_le zq5 hb.size
 have zm6:w4.heap.size<w6.heap.size:=Nat.lt_of_lt_of_le zm5 hb.size
 clear hb D5 WY5 a5_0 a5_1 a5_2 q5_0 q5_1 q5_2 q5_3 m5_0 m5_1 za5 zq5 zm5
 go_wp2_with fail
 refine (ma.out _).mono ?_
 rintro e w7 ⟨rfl,hb⟩
 have D7:Hid (Door w w7):=(D6.out.next (Go.Joins.below_alloc1 _ _)).next hb
 have WY7:Hid (Way w7 (w4.heap.size+1+2) v 4 xs):=(WY6.out.keep (Go.Joins.below_alloc1 _ _)).keep hb
 have a7_0:w7.cell? ⟨w.heap.size,0,none⟩=some (.bool x):=carry1 hb za6 a6_0
 have a7_1:w7.cell? ⟨w.heap.size,1,none⟩=some (.bool u):=carry1 hb za6 a6_1
 have a7_2:w7.cell? ⟨w.heap.size,2,none⟩=some (.bool f):=carry1 hb za6 a6_2
 have q7_0:w7.cell? ⟨w3.heap.size,0,none⟩=some (.int .i64 p0):=carry1 hb zq6 q6_0
 have q7_1:w7.cell? ⟨w3.heap.size,1,none⟩=some (.int .i64 p1):=carry1 hb zq6 q6_1
 have q7_2:w7.cell? ⟨w3.heap.size,2,none⟩=some (.int .i64 p2):=carry1 hb zq6 q6_2
 have q7_3:w7.cell? ⟨w3.heap.size,3,none⟩=some (.int .i64 p3):=carry1 hb zq6 q6_3
 have m7_0:w7.cell? ⟨w4.heap.size,0,none⟩=some (.int .u64 addr):=carry1 hb zm6 m6_0
 have m7_1:w7.cell? ⟨w4.heap.size,1,none⟩=some (.int .i64 cd):=carry1 hb zm6 m6_1
 have r7_0:w7.cell? ⟨w6.heap.size,0,none⟩=some (.bool pw):=carryN hb
 have r7_1:w7.cell? ⟨w6.heap.size,1,none⟩=some (.bool pu):=carryN hb
 have r7_2:w7.cell? ⟨w6.heap.size,2,none⟩=some (.bool px):=carryN hb
 have za7:w.heap.size<w7.heap.size:=Nat.lt_of_lt_of_le (old1 za6 _) hb.size
 have zq7:w3.heap.size<w7.heap.size:=Nat.lt_of_lt_of_le (old1 zq6 _) hb.size
 have zm7:w4.heap.size<w7.heap.size:=Nat.lt_of_lt_of_le (old1 zm6 _) hb.size
 have zr7:w6.heap.size<w7.heap.size:=Nat.lt_of_lt_of_le (szA _ _) hb.size
 have ZW6:Hid (w.heap.size<w6.heap.size):=za6
 have ZQ6:Hid (w3.heap.size<w6.heap.size):=zq6
 clear hb D6 WY6 a6_0 a6_1 a6_2 q6_0 q6_1 q6_2 q6_3 m6_0 m6_1 za6 zq6 zm6
 go_wp2_with fail
 have KD: ∀ j,(fun j=>K0 j\/(w.heap.size<=j/\j<w7.heap.size)) j->K0 j\/(w.heap.size<=j/\j<w7.heap.size):=fun j h=>h
 refine (mk.out _ (fun j=>K0 j\/(w.heap.size<=j/\j<w7.heap.size)) _ _ WY7.out (fun j h1 h2=>Or.inr ⟨by have:=ZW4.out;omega,h2⟩) (Or.inl HK0.out) (HT.out.keep D7.out.b) (HX.out.1.more (grown_of_below' D7.out.b) KD)).mono ?_
 rintro e w8 ⟨rfl,hI,hk,hT8⟩
 clear KD
 have inK: ∀ j,w.heap.size<=j->j<w7.heap.size->w8.heap[j]? =w7.heap[j]? :=fun j h1 h2=>hk.block j (Or.inr ⟨h1,h2⟩)
 have l7:=D7.out.l
 obtain ⟨⟨hlen,hrow⟩,g,cap,rfl,hg1,hg2⟩:=WY7.out
 obtain ⟨cur,hcur,hcx⟩:=way_block hrow hg2
 have zw4:=ZW4.out
 have zw6:=ZW6.out
 have C8:w8.heap[g]? =some (.cells cur 131 (0,0)):=(inK g (by omega) hg2).trans hcur
 have wl: ∀ i,i<12->w8.cell? ⟨g,36+i,none⟩=(#[.int .u64 A,.int .u64 X,.bool y0,.bool y1,.bool y2,.bool y3,.bool y4,.bool y5,.bool y6,.bool y7,.int .i64 fl,.int .i64 lv]:Array Value)[i]? :=fun i hi=>by
  have h1:=HL.out i hi
  cases hv:(#[.int .u64 A,.int .u64 X,.bool y0,.bool y1,.bool y2,.bool y3,.bool y4,.bool y5,.bool y6,.bool y7,.int .i64 fl,.int .i64 lv]:Array Value)[i]? with
  | none => rw [Array.getElem?_eq_none_iff] at hv; simp at hv; omega
  | some v => rw [hv] at h1; exact (Go.Joins.cell_of_block C8 (36 + i)).trans (hcx _ _ h1)
 have l8_0:w8.cell? ⟨g,36,none⟩=some (.int .u64 A):=wl 0 (by omega)
 have l8_1:w8.cell? ⟨g,37,none⟩=some (.int .u64 X):=wl 1 (by omega)
 have l8_2:w8.cell? ⟨g,38,none⟩=some (.bool y0):=wl 2 (by omega)
 have l8_3:w8.cell? ⟨g,39,none⟩=some (.bool y1):=wl 3 (by omega)
 have l8_4:w8.cell? ⟨g,40,none⟩=some (.bool y2):=wl 4 (by omega)
 have l8_5:w8.cell? ⟨g,41,none⟩=some (.bool y3):=wl 5 (by omega)
 have l8_6:w8.cell? ⟨g,42,none⟩=some (.bool y4):=wl 6 (by omega)
 have l8_7:w8.cell? ⟨g,43,none⟩=some (.bool y5):=wl 7 (by omega)
 have l8_8:w8.cell? ⟨g,44,none⟩=some (.bool y6):=wl 8 (by omega)
 have l8_9:w8.cell? ⟨g,45,none⟩=some (.bool y7):=wl 9 (by omega)
 have l8_10:w8.cell? ⟨g,46,none⟩=some (.int .i64 fl):=wl 10 (by omega)
 have l8_11:w8.cell? ⟨g,47,none⟩=some (.int .i64 lv):=wl 11 (by omega)
 have r8_0:w8.cell? ⟨w6.heap.size,0,none⟩=some (.bool pw):=cell_kept r7_0 (inK _ (by omega) zr7)
 have r8_1:w8.cell? ⟨w6.heap.size,1,none⟩=some (.bool pu):=cell_kept r7_1 (inK _ (by omega) zr7)
 have r8_2:w8.cell? ⟨w6.heap.size,2,none⟩=some (.bool px):=cell_kept r7_2 (inK _ (by omega) zr7)
 have q8_3:w8.cell? ⟨w3.heap.size,3,none⟩=some (.int .i64 p3):=cell_kept q7_3 (inK _ (by omega) zq7)
 have a8_0:w8.cell? ⟨w.heap.size,0,none⟩=some (.bool x):=cell_kept a7_0 (inK _ (Nat.le_refl _) za7)
 have tf8:Hid (w8.there (w.heap.size+1) 0 7):=there_kept D7.out.f (inK _ (by omega) (by omega))
 have tg8:Hid (w8.there (w.heap.size+1+1) 0 2):=there_kept D7.out.g (inK _ (by omega) (by omega))
 have ce8:Hid (∃ z:Int,w8.cell? ⟨w.heap.size+1+1+1,0,none⟩=some (.int .i64 z)):=⟨0,cell_kept D7.out.e (inK _ (by omega) (by omega))⟩
 have fe8:w8.frozen? ⟨w.heap.size+1+1+1,0,none⟩=false:=frozen_kept D7.out.z (inK _ (by omega) (by omega))
 have zs:w7.heap.size<=w8.heap.size:=hk.size
 have zg:g<w8.heap.size:=by omega
 have z6:w6.heap.size<w8.heap.size:=by omega
 have z3:w3.heap.size<w8.heap.size:=by omega
 have z0:w.heap.size<w8.heap.size:=by omega
 have zE:w.heap.size+1+1+1<w8.heap.size:=by omega
 have HI:Hid (IsRamK w8 (fun j=>K0 j\/(w.heap.size<=j/\j<w7.heap.size)) rb has F M' (m+8)):=hI
 have HT8:Hid (Tab w8):=hT8
 have HK8:Hid (Kept K0 w w8):=(kept_of_below D7.out.b (fun j hj=>HX.out.1.dom j hj)).trans (hk.sub (fun j hj=>Or.inl hj))
 have ZF:Hid (w.heap.size+1+1+1<w7.heap.size):=l7
 have ZZ:Hid (g<w8.heap.size/\w6.heap.size<w8.heap.size/\w3.heap.size<w8.heap.size/\w.heap.size<w8.heap.size/\w.heap.size+1+1+1<w8.heap.size/\w.heap.size+1+1+1<w3.heap.size/\w.heap.size+1+1+1<w6.heap.size/\w.heap.size+1+1+1<g):=⟨zg,z6,z3,z0,zE,ZD3.out,by have:=ZD3.out;have:=ZQ6.out;omega,by have:=ZD3.out;have:=ZQ4.out;omega⟩
 clear inK wl hcx hcur hrow hlen hk hI hT8 C8 hg1 hg2 l7 zs zw4 zw6 D7 WY7 za3 a7_0 a7_1 a7_2 q7_0 q7_1 q7_2 q7_3 m7_0 m7_1 r7_0 r7_1 r7_2 za7 zq7 zm7 zr7 zg z6 z3 z0 zE mk ma cm fo hh co sp hc HL
 go_wp2_with fail
 have hwr:IntKind.i64.wrap 3=3:=by decide
 refine wp_region_noPanic ?_
 refine wp_region_held_drew (S:=fun c=>c.cell? ⟨g,36,none⟩=some (.int .u64 A)/\c.cell? ⟨g,37,none⟩=some (.int .u64 X)/\c.cell? ⟨g,38,none⟩=some (.bool y0)/\c.cell? ⟨g,39,none⟩=some (.bool y1)/\c.cell? ⟨g,40,none⟩=some (.bool y2)/\c.cell? ⟨g,41,none⟩=some (.bool y3)/\c.cell? ⟨g,42,none⟩=some (.bool y4)/\c.cell? ⟨g,43,none⟩=some (.bool y5)/\c.cell? ⟨g,44,none⟩=some (.bool y6)/\c.cell? ⟨g,45,none⟩=some (.bool y7)/\c.cell? ⟨g,46,none⟩=some (.int .i64 fl)/\c.cell? ⟨g,47,none⟩=some (.int .i64 lv)/\c.cell? ⟨w6.heap.size,0,none⟩=some (.bool pw)/\c.cell? ⟨w6.heap.size,1,none⟩=some (.bool pu)/\c.cell? ⟨w6.heap.size,2,none⟩=some (.bool px)/\c.cell? ⟨w3.heap.size,3,none⟩=some (.int .i64 p3)/\c.cell? ⟨w.heap.size,0,none⟩=some (.bool x)/\Hid (c.there (w.heap.size+1) 0 7)/\Hid (c.there (w.heap.size+1+1) 0 2)/\Hid (∃ z:Int,c.cell? ⟨w.heap.size+1+1+1,0,none⟩=some (.int .i64 z))/\c.frozen? ⟨w.heap.size+1+1+1,0,none⟩=false) (by kernel_rfl) ?_ (fun hHeld=> ?_)
 . exact ⟨l8_0,l8_1,l8_2,l8_3,l8_4,l8_5,l8_6,l8_7,l8_8,l8_9,l8_10,l8_11,r8_0,r8_1,r8_2,q8_3,a8_0,tf8.out,tg8.out,ce8.out,fe8⟩
 clear l8_0 l8_1 l8_2 l8_3 l8_4 l8_5 l8_6 l8_7 l8_8 l8_9 l8_10 l8_11 r8_0 r8_1 r8_2 q8_3 a8_0 tf8 tg8 ce8 fe8
 refine tk 0 55 ?_ rfl (Or.inl ⟨by rfl,?_⟩) ?_
 rotate_left
 . intro w hSw;(try dsimp only at hSw);go_simp;(try with_reducible rfl)
 try simp only [Act.put,z1,z2,z3]
 refine tk 1 56 ?_ rfl (Or.inl ⟨by rfl,?_⟩) ?_
 rotate_left
 . intro w hSw;(try dsimp only at hSw);go_simp;(try with_reducible rfl)
 try simp only [Act.put,z1,z2,z3]
 refine tk 2 57 ?_ rfl (Or.inl ⟨by rfl,?_⟩) ?_
 rotate_left
 . intro w hSw;(try dsimp only at hSw);go_simp;(try with_reducible rfl)
 try simp only [Act.put,z1,z2,z3]
 refine tk 3 58 ?_ rfl (Or.inl ⟨by rfl,?_⟩) ?_
 rotate_left
 . intro w hSw;(try dsimp only at hSw);go_simp;(try with_reducible rfl)
 try simp only [Act.put,z1,z2,z3]
 refine tk 4 59 ?_ rfl (Or.inl ⟨by rfl,?_⟩) ?_
 rotate_left
 . intro w hSw;(try dsimp only at hSw);go_simp;(try with_reducible rfl)
 try simp only [Act.put,z1,z2,z3]
 refine tk 5 60 ?_ rfl (Or.inl ⟨by rfl,?_⟩) ?_
 rotate_left
 . intro w hSw;(try dsimp only at hSw);go_simp;(try with_reducible rfl)
 try simp only [Act.put,z1,z2,z3]
 refine tk 6 61 ?_ rfl (Or.inl ⟨by rfl,?_⟩) ?_
 rotate_left
 . intro w hSw;(try dsimp only at hSw);go_simp;(try with_reducible rfl)
 try simp only [Act.put,z1,z2,z3]
 refine tk 7 62 ?_ rfl (Or.inl ⟨by rfl,?_⟩) ?_
 rotate_left
 . intro w hSw;(try dsimp only at hSw);go_simp;(try with_reducible rfl)
 try simp only [Act.put,z1,z2,z3]
 refine tk 8 63 ?_ rfl (Or.inl ⟨by rfl,?_⟩) ?_
 rotate_left
 . intro w hSw;(try dsimp only at hSw);go_simp;(try with_reducible rfl)
 try simp only [Act.put,z1,z2,z3]
 refine tk 9 64 ?_ rfl (Or.inl ⟨by rfl,?_⟩) ?_
 rotate_left
 . intro w hSw;(try dsimp only at hSw);go_simp;(try with_reducible rfl)
 try simp only [Act.put,z1,z2,z3]
 refine tk 10 65 ?_ rfl (Or.inl ⟨by rfl,?_⟩) ?_
 rotate_left
 . intro w hSw;(try dsimp only at hSw);go_simp;(try with_reducible rfl)
 try simp only [Act.put,z1,z2,z3]
 refine tk 12 67 ?_ rfl (Or.inl ⟨by rfl,?_⟩) ?_
 rotate_left
 . intro w hSw;(try dsimp only at hSw);go_simp;(try with_reducible rfl)
 try simp only [Act.put,z1,z2,z3]
 refine wpAnyH_ready (rs:=[11]) (by kernel_rfl) (by simp) ?_
 refine AllReadyH.cons (o:=⟨some 66,_,_,_,_,none⟩) rfl (fun K hK=> ?_) AllReadyH.nil
 go_simp
 go_wp2_with (go_at_call 55;refine (te.out _).mono ?_;rintro e w9 ⟨rfl,hb⟩)
 obtain ⟨s0,s1,s2,s3,s4,s5,s6,s7,s8,s9,s10,s11,s12,s13,s14,s15,s16,tf,tg,ce,fe⟩:=hHeld
 have hb9:Below w8.heap.size w8 w9:=below_drew8 hb
 clear hb
 obtain ⟨zg,z6,z3,z0,zE,e3,e6,eg⟩:=ZZ.out
 refine hK.out _ _ ?_ (fun hHeld1=> ?_)
 . exact ⟨carry0 hb9 zg s0,carry0 hb9 zg s1,carry0 hb9 zg s2,carry0 hb9 zg s3,carry0 hb9 zg s4,carry0 hb9 zg s5,carry0 hb9 zg s6,carry0 hb9 zg s7,carry0 hb9 zg s8,carry0 hb9 zg s9,carry0 hb9 zg s10,carry0 hb9 zg s11,carry0 hb9 z6 s12,carry0 hb9 z6 s13,carry0 hb9 z6 s14,carry0 hb9 z3 s15,carry0 hb9 z0 s16,there_below (show w8.there _ 0 7 from tf.out) hb9 (by omega),there_below (show w8.there _ 0 2 from tg.out) hb9 (by omega),⟨ce.out.choose,carry0 hb9 zE ce.out.choose_spec⟩,(hb9.frozen (p:=⟨w.heap.size+1+1+1,0,none⟩) zE).trans fe⟩
 have HB9:Hid (Below w8.heap.size w8 w9):=hb9
 clear hK K hb9 s0 s1 s2 s3 s4 s5 s6 s7 s8 s9 s10 s11 s12 s13 s14 s15 s16 tf tg ce fe zg z6 z3 z0 zE e3 e6 eg
 try simp only [Act.put,z1,z2,z3]
 have h1:=hHeld1
 clear hHeld1
 obtain ⟨s0,s1,s2,s3,s4,s5,s6,s7,s8,s9,s10,s11,s12,s13,s14,s15,s16,tf,tg,ce,fe⟩:=h1
 have hHeld1:=(show (fun c=>c.cell? ⟨g,36,none⟩=some (.int .u64 A)/\c.cell? ⟨g,37,none⟩=some (.int .u64 X)/\c.cell? ⟨g,38,none⟩=some (.bool y0)/\c.cell? ⟨g,39,none⟩=some (.bool y1)/\c.cell? ⟨g,40,none⟩=some (.bool y2)/\c.cell? ⟨g,41,none⟩=some (.bool y3)/\c.cell? ⟨g,42,none⟩=some (.bool y4)/\c.cell? ⟨g,43,none⟩=some (.bool y5)/\c.cell? ⟨g,44,none⟩=some (.bool y6)/\c.cell? ⟨g,45,none⟩=some (.bool y7)/\c.cell? ⟨g,46,none⟩=some (.int .i64 fl)/\c.cell? ⟨g,47,none⟩=some (.int .i64 lv)/\c.cell? ⟨w6.heap.size,0,none⟩=some (.bool pw)/\c.cell? ⟨w6.heap.size,1,none⟩=some (.bool pu)/\c.cell? ⟨w6.heap.size,2,none⟩=some (.bool px)/\c.cell? ⟨w3.heap.size,3,none⟩=some (.int .i64 p3)/\c.cell? ⟨w.heap.size,0,none⟩=some (.bool x)/\Hid (c.there (w.heap.size+1) 0 7)/\Hid (c.there (w.heap.size+1+1) 0 2)/\Hid (∃ z:Int,c.cell? ⟨w.heap.size+1+1+1,0,none⟩=some (.int .i64 z))/\c.frozen? ⟨w.heap.size+1+1+1,0,none⟩=false) w9 from ⟨s0,s1,s2,s3,s4,s5,s6,s7,s8,s9,s10,s11,s12,s13,s14,s15,s16,tf,tg,ce,fe⟩)
 obtain ⟨zg,z6,z3,z0,zE,e3,e6,eg⟩:=ZZ.out
 refine wpAnyH_ready (rs:=[13]) (by kernel_rfl) (by simp) ?_
 refine AllReadyH.cons (o:=⟨none,.store 56 (.tmp 8) (.tmp 66),_,_,_,none⟩) rfl (fun K hK=> ?_) AllReadyH.nil
 refine wanted_mp rfl ?_
 refine wp_store_mid _ _ _ rfl (w.heap.size+1) 0 #[.int .i64 fr,.bool pw,.bool pu,.bool px,.bool gg,.bool lg,.bool dd] rfl rfl tf.out found_info (by simp [Value.oneCell']) ?_
 refine hK.out _ _ ?_ (fun hHeld2=> ?_)
 . exact ⟨(cell_setCells_ne (by exact (show (g:Nat)≠w.heap.size+1 by omega))).trans s0,(cell_setCells_ne (by exact (show (g:Nat)≠w.heap.size+1 by omega))).trans s1,(cell_setCells_ne (by exact (show (g:Nat)≠w.heap.size+1 by omega))).trans s2,(cell_setCells_ne (by exact (show (g:Nat)≠w.heap.size+1 by omega))).trans s3,(cell_setCells_ne (by exact (show (g:Nat)≠w.heap.size+1 by omega))).trans s4,(cell_setCells_ne (by exact (show (g:Nat)≠w.heap.size+1 by omega))).trans s5,(cell_setCells_ne (by exact (show (g:Nat)≠w.heap.size+1 by omega))).trans s6,(cell_setCells_ne (by exact (show (g:Nat)≠w.heap.size+1 by omega))).trans s7,(cell_setCells_ne (by exact (show (g:Nat)≠w.heap.size+1 by omega))).trans s8,(cell_setCells_ne (by exact (show (g:Nat)≠w.heap.size+1 by omega))).trans s9,(cell_setCells_ne (by exact (show (g:Nat)≠w.heap.size+1 by omega))).trans s10,(cell_setCells_ne (by exact (show (g:Nat)≠w.heap.size+1 by omega))).trans s11,(cell_setCells_ne (by exact (show (w6.heap.size:Nat)≠w.heap.size+1 by omega))).trans s12,(cell_setCells_ne (by exact (show (w6.heap.size:Nat)≠w.heap.size+1 by omega))).trans s13,(cell_setCells_ne (by exact (show (w6.heap.size:Nat)≠w.heap.size+1 by omega))).trans s14,(cell_setCells_ne (by exact (show (w3.heap.size:Nat)≠w.heap.size+1 by omega))).trans s15,(cell_setCells_ne (by exact (show (w.heap.size:Nat)≠w.heap.size+1 by omega))).trans s16,World.there_setCells tf.out _ _ _,World.there_setCells tg.out _ _ _,⟨ce.out.choose,(cell_setCells_ne (by exact (show (w.heap.size+1+1+1:Nat)≠w.heap.size+1 by omega))).trans ce.out.choose_spec⟩,(World.frozen?_setCells _ _ _ _ _).trans fe⟩
 clear hK K
 try simp only [Act.put,z1,z2,z3]
 have Q1:Hid (Kept (fun k=>k≠w.heap.size+1) w9 (w9.setCells (w.heap.size+1) 0 [.int .i64 fr,.bool pw,.bool pu,.bool px,.bool gg,.bool lg,.bool dd])):=kept_setCells _ _ (fun h=>h rfl) _ 0 w9
 have R1:Hid ((w9.setCells (w.heap.size+1) 0 [.int .i64 fr,.bool pw,.bool pu,.bool px,.bool gg,.bool lg,.bool dd]).rangeAt (w.heap.size+1) 0 [.int .i64 fr,.bool pw,.bool pu,.bool px,.bool gg,.bool lg,.bool dd]):=World.rangeAt_setCells_same w9 _ 0 _ tf.out
 clear hHeld1 s0 s1 s2 s3 s4 s5 s6 s7 s8 s9 s10 s11 s12 s13 s14 s15 s16 tf tg ce fe
 simp only [List.toList_toArray] at hHeld2 |-
 generalize w9.setCells (w.heap.size+1) 0 [.int .i64 fr,.bool pw,.bool pu,.bool px,.bool gg,.bool lg,.bool dd]=X1 at hHeld2 Q1 R1 |-
 obtain ⟨s0,s1,s2,s3,s4,s5,s6,s7,s8,s9,s10,s11,s12,s13,s14,s15,s16,tf,tg,ce,fe⟩:=hHeld2
 have hHeld2:=(show (fun c=>c.cell? ⟨g,36,none⟩=some (.int .u64 A)/\c.cell? ⟨g,37,none⟩=some (.int .u64 X)/\c.cell? ⟨g,38,none⟩=some (.bool y0)/\c.cell? ⟨g,39,none⟩=some (.bool y1)/\c.cell? ⟨g,40,none⟩=some (.bool y2)/\c.cell? ⟨g,41,none⟩=some (.bool y3)/\c.cell? ⟨g,42,none⟩=some (.bool y4)/\c.cell? ⟨g,43,none⟩=some (.bool y5)/\c.cell? ⟨g,44,none⟩=some (.bool y6)/\c.cell? ⟨g,45,none⟩=some (.bool y7)/\c.cell? ⟨g,46,none⟩=some (.int .i64 fl)/\c.cell? ⟨g,47,none⟩=some (.int .i64 lv)/\c.cell? ⟨w6.heap.size,0,none⟩=some (.bool pw)/\c.cell? ⟨w6.heap.size,1,none⟩=some (.bool pu)/\c.cell? ⟨w6.heap.size,2,none⟩=some (.bool px)/\c.cell? ⟨w3.heap.size,3,none⟩=some (.int .i64 p3)/\c.cell? ⟨w.heap.size,0,none⟩=some (.bool x)/\Hid (c.there (w.heap.size+1) 0 7)/\Hid (c.there (w.heap.size+1+1) 0 2)/\Hid (∃ z:Int,c.cell? ⟨w.heap.size+1+1+1,0,none⟩=some (.int .i64 z))/\c.frozen? ⟨w.heap.size+1+1+1,0,none⟩=false) X1 from ⟨s0,s1,s2,s3,s4,s5,s6,s7,s8,s9,s10,s11,s12,s13,s14,s15,s16,tf,tg,ce,fe⟩)
 refine wpAnyH_ready (rs:=[14]) (by kernel_rfl) (by simp) ?_
 refine AllReadyH.cons (o:=⟨none,.store 58 (.tmp 9) (.tmp 67),_,_,_,none⟩) rfl (fun K hK=> ?_) AllReadyH.nil
 refine wanted_mp rfl ?_
 refine wp_store_mid _ _ _ rfl (w.heap.size+1+1) 0 #[.int .u64 0,.int .i64 0] rfl rfl tg.out fault_info (by simp [Value.oneCell']) ?_
 refine hK.out _ _ ?_ (fun hHeld3=> ?_)
 . exact ⟨(cell_setCells_ne (by exact (show (g:Nat)≠w.heap.size+1+1 by omega))).trans s0,(cell_setCells_ne (by exact (show (g:Nat)≠w.heap.size+1+1 by omega))).trans s1,(cell_setCells_ne (by exact (show (g:Nat)≠w.heap.size+1+1 by omega))).trans s2,(cell_setCells_ne (by exact (show (g:Nat)≠w.heap.size+1+1 by omega))).trans s3,(cell_setCells_ne (by exact (show (g:Nat)≠w.heap.size+1+1 by omega))).trans s4,(cell_setCells_ne (by exact (show (g:Nat)≠w.heap.size+1+1 by omega))).trans s5,(cell_setCells_ne (by exact (show (g:Nat)≠w.heap.size+1+1 by omega))).trans s6,(cell_setCells_ne (by exact (show (g:Nat)≠w.heap.size+1+1 by omega))).trans s7,(cell_setCells_ne (by exact (show (g:Nat)≠w.heap.size+1+1 by omega))).trans s8,(cell_setCells_ne (by exact (show (g:Nat)≠w.heap.size+1+1 by omega))).trans s9,(cell_setCells_ne (by exact (show (g:Nat)≠w.heap.size+1+1 by omega))).trans s10,(cell_setCells_ne (by exact (show (g:Nat)≠w.heap.size+1+1 by omega))).trans s11,(cell_setCells_ne (by exact (show (w6.heap.size:Nat)≠w.heap.size+1+1 by omega))).trans s12,(cell_setCells_ne (by exact (show (w6.heap.size:Nat)≠w.heap.size+1+1 by omega))).trans s13,(cell_setCells_ne (by exact (show (w6.heap.size:Nat)≠w.heap.size+1+1 by omega))).trans s14,(cell_setCells_ne (by exact (show (w3.heap.size:Nat)≠w.heap.size+1+1 by omega))).trans s15,(cell_setCells_ne (by exact (show (w.heap.size:Nat)≠w.heap.size+1+1 by omega))).trans s16,World.there_setCells tf.out _ _ _,World.there_setCells tg.out _ _ _,⟨ce.out.choose,(cell_setCells_ne (by exact (show (w.heap.size+1+1+1:Nat)≠w.heap.size+1+1 by omega))).trans ce.out.choose_spec⟩,(World.frozen?_setCells _ _ _ _ _).trans fe⟩
 clear hK K
 try simp only [Act.put,z1,z2,z3]
 have Q2:Hid (Kept (fun k=>k≠w.heap.size+1+1) X1 (X1.setCells (w.heap.size+1+1) 0 [.int .u64 0,.int .i64 0])):=kept_setCells _ _ (fun h=>h rfl) _ 0 X1
 have R2:Hid ((X1.setCells (w.heap.size+1+1) 0 [.int .u64 0,.int .i64 0]).rangeAt (w.heap.size+1+1) 0 [.int .u64 0,.int .i64 0]):=World.rangeAt_setCells_same X1 _ 0 _ tg.out
 have R1':Hid ((X1.setCells (w.heap.size+1+1) 0 [.int .u64 0,.int .i64 0]).rangeAt (w.heap.size+1) 0 [.int .i64 fr,.bool pw,.bool pu,.bool px,.bool gg,.bool lg,.bool dd]):=World.rangeAt_setCells_apart R1.out _ 0 _ (Or.inl (by omega))
 clear hHeld2 s0 s1 s2 s3 s4 s5 s6 s7 s8 s9 s10 s11 s12 s13 s14 s15 s16 tf tg ce fe R1
 simp only [List.toList_toArray] at hHeld3 |-
 generalize X1.setCells (w.heap.size+1+1) 0 [.int .u64 0,.int .i64 0]=X2 at hHeld3 Q2 R2 R1' |-
 obtain ⟨s0,s1,s2,s3,s4,s5,s6,s7,s8,s9,s10,s11,s12,s13,s14,s15,s16,tf,tg,ce,fe⟩:=hHeld3
 obtain ⟨z,c2⟩:=ce.out
 have Q3:Hid (Kept (fun k=>k≠w.heap.size+1+1+1) X2 (X2.setCell ⟨w.heap.size+1+1+1,0,none⟩ (.int .i64 0))):=kept_setCell1 _ _ (fun h=>h rfl) 0 _ X2
 have RA:Hid ((X2.setCell ⟨w.heap.size+1+1+1,0,none⟩ (.int .i64 0)).rangeAt (w.heap.size+1) 0 [.int .i64 fr,.bool pw,.bool pu,.bool px,.bool gg,.bool lg,.bool dd]):=World.rangeAt_setCells_apart R1'.out (w.heap.size+1+1+1) 0 [.int .i64 0] (Or.inl (by omega))
 have RB:Hid ((X2.setCell ⟨w.heap.size+1+1+1,0,none⟩ (.int .i64 0)).rangeAt (w.heap.size+1+1) 0 [.int .u64 0,.int .i64 0]):=World.rangeAt_setCells_apart R2.out (w.heap.size+1+1+1) 0 [.int .i64 0] (Or.inl (by omega))
 have RC:Hid ((X2.setCell ⟨w.heap.size+1+1+1,0,none⟩ (.int .i64 0)).rangeAt (w.heap.size+1+1+1) 0 [.int .i64 0]):=World.rangeAt_setCells_same X2 (w.heap.size+1+1+1) 0 [.int .i64 0] (fun j hj=>by
  obtain rfl:j=0:=by simp at hj;omega
  exact ⟨by rw [Nat.zero_add,c2];rfl,fe⟩)
 clear R1' R2
 refine wpAnyH_ready (rs:=[15]) (by kernel_rfl) (by simp) ?_
 refine AllReadyH.cons (o:=⟨none,.store 31 (.tmp 10) (.const (.int .i64 0)),_,_,_,none⟩) rfl (fun K hK=> ?_) AllReadyH.nil
 go_simp
 refine hK.out _ _ ?_ (fun hHeld4=> ?_)
 . exact ⟨(World.cell?_setCell_other _ _ _ _ (by intro e;injection e with e1;omega)).trans s0,(World.cell?_setCell_other _ _ _ _ (by intro e;injection e with e1;omega)).trans s1,(World.cell?_setCell_other _ _ _ _ (by intro e;injection e with e1;omega)).trans s2,(World.cell?_setCell_other _ _ _ _ (by intro e;injection e with e1;omega)).trans s3,(World.cell?_setCell_other _ _ _ _ (by intro e;injection e with e1;omega)).trans s4,(World.cell?_setCell_other _ _ _ _ (by intro e;injection e with e1;omega)).trans s5,(World.cell?_setCell_other _ _ _ _ (by intro e;injection e with e1;omega)).trans s6,(World.cell?_setCell_other _ _ _ _ (by intro e;injection e with e1;omega)).trans s7,(World.cell?_setCell_other _ _ _ _ (by intro e;injection e with e1;omega)).trans s8,(World.cell?_setCell_other _ _ _ _ (by intro e;injection e with e1;omega)).trans s9,(World.cell?_setCell_other _ _ _ _ (by intro e;injection e with e1;omega)).trans s10,(World.cell?_setCell_other _ _ _ _ (by intro e;injection e with e1;omega)).trans s11,(World.cell?_setCell_other _ _ _ _ (by intro e;injection e with e1;omega)).trans s12,(World.cell?_setCell_other _ _ _ _ (by intro e;injection e with e1;omega)).trans s13,(World.cell?_setCell_other _ _ _ _ (by intro e;injection e with e1;omega)).trans s14,(World.cell?_setCell_other _ _ _ _ (by intro e;injection e with e1;omega)).trans s15,(World.cell?_setCell_other _ _ _ _ (by intro e;injection e with e1;omega)).trans s16,World.there_setCells tf.out (w.heap.size+1+1+1) 0 [.int .i64 0],World.there_setCells tg.out (w.heap.size+1+1+1) 0 [.int .i64 0],⟨0,by have:=RC.out 0 _ rfl;rw [Nat.zero_add] at this;exact this⟩,(World.frozen?_setCell _ _ _ _).trans fe⟩
 clear hK K
 try simp only [Act.put,z1,z2,z3]
 refine wpAnyH_done (by kernel_rfl) ?_ _
 refine NoPanic.normal ?_
 clear hHeld4 c2 ce s0 s1 s2 s3 s4 s5 s6 s7 s8 s9 s10 s11 s12 s13 s14 s15 s16 tf tg fe
 generalize X2.setCell ⟨w.heap.size+1+1+1,0,none⟩ (.int .i64 0)=X3 at Q3 RA RB RC |-
 go_wp2_with fail
 refine walk_end w X3 fr pw pu px gg lg dd _ _ rfl rfl rfl RA.out RB.out RC.out ?_
 have zF:=ZF.out
 have dom:=HX.out.1.dom
 obtain ⟨S,hS,hSK⟩:=HX.out.2
 have lS: ∀ j,K0 j->j<w.heap.size:=dom
 have k9:Kept K0 w8 w9:=kept_of_below HB9.out (fun j hj=>Nat.lt_of_lt_of_le (lS j hj) HK8.out.size)
 have kX:Kept K0 w8 X3:=k9.trans ((Q1.out.sub (fun j hj=>by have:=lS j hj;omega)).trans ((Q2.out.sub (fun j hj=>by have:=lS j hj;omega)).trans (Q3.out.sub (fun j hj=>by have:=lS j hj;omega))))
 have kW:Kept K0 w X3:=HK8.out.trans kX
 have nS: ∀ f,w.heap.size<=f->f∉S:=fun f hf hs=>by have:=lS f (hSK f hs);omega
 have h8:=HI.out.toS (hS.keep (fun s hs=>HK8.out.block s (hSK s hs)) HK8.out.size)
 have h9:=h8.poke (grown_of_below' HB9.out) (fun f hf=>by cases hf)
 have h10:=h9.poke (grown_of_but Q1.out) (fun f hf=>by cases hf;exact ⟨Or.inr ⟨by omega,by omega⟩,nS _ (by omega)⟩)
 have h11:=h10.poke (grown_of_but Q2.out) (fun f hf=>by cases hf;exact ⟨Or.inr ⟨by omega,by omega⟩,nS _ (by omega)⟩)
 have h12:=h11.poke (grown_of_but Q3.out) (fun f hf=>by cases hf;exact ⟨Or.inr ⟨by omega,by omega⟩,nS _ (by omega)⟩)
 exact ⟨rfl,h12.back (fun j hj=>Or.inl hj) hSK (fun j hj=>Nat.lt_of_lt_of_le (lS j hj) kW.size),kW,HT8.out.kept kX HK0.out⟩
end Go.Proofs.YtkiclbnbnjbcaaaDoor
