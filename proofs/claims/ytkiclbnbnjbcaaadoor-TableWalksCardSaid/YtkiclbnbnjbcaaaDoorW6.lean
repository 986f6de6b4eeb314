import Derived.Test.YtkiclbnbnjbcaaaDoorW5
import Derived.LoopTactic
namespace Go.Proofs.YtkiclbnbnjbcaaaDoor
open Go.ChangeShapes Go.WideShapes Go.ChangeAt Go.RowKit Go.Maps
set_option linter.unusedSimpArgs false
set_option linter.unusedVariables false
set_option maxRecDepth 8000
theorem perm_info:(Tryd.prog.info? 40).map (·.size)=some 3:=by kernel_rfl
def CI (w wr:World) (a b c:Bool):Prop:= ∃ r0 r1 r2,wr.heap[w.heap.size]? =some (.cells #[r0,r1,r2] 40 (0,0))/\wr.heap[w.heap.size+1]? =some (.cells #[.bool a,.bool b,.bool c] 40 (0,0))/\Below w.heap.size w wr
theorem CI.made (w:World) (r0 r1 r2:Value):CI w ((w.alloc (.cells #[r0,r1,r2] 40)).alloc (.cells #[.bool true,.bool true,.bool true] 40)) true true true :=
 ⟨r0,r1,r2,own2a w _ _,own2b w _ _,Go.Joins.below_alloc2 _ _ _⟩
theorem heap_set_other (w:World) (a:Addr) (v:Value) (k:Nat) (h:k≠a.block):(w.setCell a v).heap[k]? =w.heap[k]? :=Below.heap_setCell _ _ _ _ h
theorem CI.next {w wr:World} {a b c:Bool} (h:CI w wr a b c) (o:Obj) (a' b' c':Bool) :
 CI w ((((wr.setCell ⟨w.heap.size+1,0,none⟩ (.bool a')).setCell ⟨w.heap.size+1,1,none⟩ (.bool b')).setCell ⟨w.heap.size+1,2,none⟩ (.bool c')).alloc o) a' b' c':=by
 obtain ⟨r0,r1,r2,h1,h2,h3⟩:=h
 have l1:w.heap.size<wr.heap.size:=(Array.getElem?_eq_some_iff.1 h1).1
 have l2:w.heap.size+1<wr.heap.size:=(Array.getElem?_eq_some_iff.1 h2).1
 have m1:=Go.Joins.block_setCell (i:=0) h2 (.bool a')
 have m2:=Go.Joins.block_setCell (i:=1) m1 (.bool b')
 have m3:=Go.Joins.block_setCell (i:=2) m2 (.bool c')
 have n3:(((wr.setCell ⟨w.heap.size+1,0,none⟩ (.bool a')).setCell ⟨w.heap.size+1,1,none⟩ (.bool b')).setCell ⟨w.heap.size+1,2,none⟩ (.bool c')).heap[w.heap.size]? =some (.cells #[r0,r1,r2] 40 (0,0)):=by
  rw [heap_set_other _ _ _ _ (by simp),heap_set_other _ _ _ _ (by simp),heap_set_other _ _ _ _ (by simp)];exact h1
 have B:=((h3.setCell (p:=⟨w.heap.size+1,0,none⟩) (by simp) (.bool a')).setCell (p:=⟨w.heap.size+1,1,none⟩) (by simp) (.bool b')).setCell (p:=⟨w.heap.size+1,2,none⟩) (by simp) (.bool c')
 have hs: ∀ (W:World) (k:Nat) (x:Obj),W.heap[k]? =some x->(W.alloc o).heap[k]? =some x:=fun W k x hx=>((Go.Joins.below_alloc1 W o).block k (Array.getElem?_eq_some_iff.1 hx).1).trans hx
 exact ⟨r0,r1,r2,hs _ _ _ n3,hs _ _ _ m3,below_new B o⟩
theorem way_cell {w:World} {base n g cap:Nat} {xs:List Value} (h:(.slice (some ⟨g,0,none⟩) n cap:Value)=.slice none 0 0/\n=0 \/
 ∃ g' cap' cur,(.slice (some ⟨g,0,none⟩) n cap:Value)=.slice (some ⟨g',0,none⟩) n cap'/\base<=g'/\w.heap[g']? =some (.cells cur 131 (0,0))/\n<=cap'/\cap'<=maxLen/\cur.size=cap'*12/\cur.toList.take (n*12)=xs) (hg:g<w.heap.size) :
  ∀ (j:Nat) (x:Value),xs[j]? =some x->w.cell? ⟨g,j,none⟩=some x:=by
 intro j x hx
 rcases h with ⟨h,_⟩ | ⟨g',cap',cur,e1,e2,e3,e4,e5,e6,e7⟩
 . cases h
 . cases e1
   rw [Go.Joins.cell_of_block e3 j]
   rw [<- e7,List.getElem?_take] at hx
   split at hx
   . rw [Array.getElem?_toList] at hx;exact hx
   . cases hx
set_option maxHeartbeats 4000000 in
theorem common3 (A0 X0 f0:Int) (y00 y01 y02 y03 y04 y05 y06 y07:Bool) (A1 X1 f1:Int) (y10 y11 y12 y13 y14 y15 y16 y17:Bool) (A2 X2 f2:Int) (y20 y21 y22 y23 y24 y26 y27:Bool) (base:Nat) (v:Value) (w:World) (h:Way w base v 3 (((([]:List Value)++([.int .u64 A0,.int .u64 X0,.bool y00,.bool y01,.bool y02,.bool y03,.bool y04,.bool y05,.bool y06,.bool y07,.int .i64 f0,.int .i64 4]:List Value))++([.int .u64 A1,.int .u64 X1,.bool y10,.bool y11,.bool y12,.bool y13,.bool y14,.bool y15,.bool y16,.bool y17,.int .i64 f1,.int .i64 3]:List Value))++([.int .u64 A2,.int .u64 X2,.bool y20,.bool y21,.bool y22,.bool y23,.bool y24,.bool true,.bool y26,.bool y27,.int .i64 f2,.int .i64 2]:List Value))) :
 Calls Tryd.prog 52 #[v] w fun e w'=>e=.returned (.agg #[.bool (((true && y01) && y11) && y21),.bool (((true && y02) && y12) && y22),.bool (((true && !y07) && !y17) && !y27)])/\Below w.heap.size w w':=by
 obtain ⟨⟨hlen,hrow⟩,g,cap,rfl,hg1,hg2⟩:=h
 have hc: ∀ (j:Nat) (x:Value),(((([]:List Value)++([.int .u64 A0,.int .u64 X0,.bool y00,.bool y01,.bool y02,.bool y03,.bool y04,.bool y05,.bool y06,.bool y07,.int .i64 f0,.int .i64 4]:List Value))++([.int .u64 A1,.int .u64 X1,.bool y10,.bool y11,.bool y12,.bool y13,.bool y14,.bool y15,.bool y16,.bool y17,.int .i64 f1,.int .i64 3]:List Value))++([.int .u64 A2,.int .u64 X2,.bool y20,.bool y21,.bool y22,.bool y23,.bool y24,.bool true,.bool y26,.bool y27,.int .i64 f2,.int .i64 2]:List Value))[j]? =some x->w.cell? ⟨g,j,none⟩=some x:=way_cell hrow hg2
 have q0:w.cell? ⟨g,0,none⟩=some (.int .u64 A0):=hc 0 _ rfl
 have q1:w.cell? ⟨g,1,none⟩=some (.int .u64 X0):=hc 1 _ rfl
 have q2:w.cell? ⟨g,2,none⟩=some (.bool y00):=hc 2 _ rfl
 have q3:w.cell? ⟨g,3,none⟩=some (.bool y01):=hc 3 _ rfl
 have q4:w.cell? ⟨g,4,none⟩=some (.bool y02):=hc 4 _ rfl
 have q5:w.cell? ⟨g,5,none⟩=some (.bool y03):=hc 5 _ rfl
 have q6:w.cell? ⟨g,6,none⟩=some (.bool y04):=hc 6 _ rfl
 have q7:w.cell? ⟨g,7,none⟩=some (.bool y05):=hc 7 _ rfl
 have q8:w.cell? ⟨g,8,none⟩=some (.bool y06):=hc 8 _ rfl
 have q9:w.cell? ⟨g,9,none⟩=some (.bool y07):=hc 9 _ rfl
 have q10:w.cell? ⟨g,10,none⟩=some (.int .i64 f0):=hc 10 _ rfl
 have q11:w.cell? ⟨g,11,none⟩=some (.int .i64 4):=hc 11 _ rfl
 have q12:w.cell? ⟨g,12,none⟩=some (.int .u64 A1):=hc 12 _ rfl
 have q13:w.cell? ⟨g,13,none⟩=some (.int .u64 X1):=hc 13 _ rfl
 have q14:w.cell? ⟨g,14,none⟩=some (.bool y10):=hc 14 _ rfl
 have q15:w.cell? ⟨g,15,none⟩=some (.bool y11):=hc 15 _ rfl
 have q16:w.cell? ⟨g,16,none⟩=some (.bool y12):=hc 16 _ rfl
 have q17:w.cell? ⟨g,17,none⟩=some (.bool y13):=hc 17 _ rfl
 have q18:w.cell? ⟨g,18,none⟩=some (.bool y14):=hc 18 _ rfl
 have q19:w.cell? ⟨g,19,none⟩=some (.bool y15):=hc 19 _ rfl
 have q20:w.cell? ⟨g,20,none⟩=some (.bool y16):=hc 20 _ rfl
 have q21:w.cell? ⟨g,21,none⟩=some (.bool y17):=hc 21 _ rfl
 have q22:w.cell? ⟨g,22,none⟩=some (.int .i64 f1):=hc 22 _ rfl
 have q23:w.cell? ⟨g,23,none⟩=some (.int .i64 3):=hc 23 _ rfl
 have q24:w.cell? ⟨g,24,none⟩=some (.int .u64 A2):=hc 24 _ rfl
 have q25:w.cell? ⟨g,25,none⟩=some (.int .u64 X2):=hc 25 _ rfl
 have q26:w.cell? ⟨g,26,none⟩=some (.bool y20):=hc 26 _ rfl
 have q27:w.cell? ⟨g,27,none⟩=some (.bool y21):=hc 27 _ rfl
 have q28:w.cell? ⟨g,28,none⟩=some (.bool y22):=hc 28 _ rfl
 have q29:w.cell? ⟨g,29,none⟩=some (.bool y23):=hc 29 _ rfl
 have q30:w.cell? ⟨g,30,none⟩=some (.bool y24):=hc 30 _ rfl
 have q31:w.cell? ⟨g,31,none⟩=some (.bool true):=hc 31 _ rfl
 have q32:w.cell? ⟨g,32,none⟩=some (.bool y26):=hc 32 _ rfl
 have q33:w.cell? ⟨g,33,none⟩=some (.bool y27):=hc 33 _ rfl
 have q34:w.cell? ⟨g,34,none⟩=some (.int .i64 f2):=hc 34 _ rfl
 have q35:w.cell? ⟨g,35,none⟩=some (.int .i64 2):=hc 35 _ rfl
 have Q:Hid (w.cell? ⟨g,0,none⟩=some (.int .u64 A0)/\w.cell? ⟨g,1,none⟩=some (.int .u64 X0)/\w.cell? ⟨g,2,none⟩=some (.bool y00)/\w.cell? ⟨g,3,none⟩=some (.bool y01)/\w.cell? ⟨g,4,none⟩=some (.bool y02)/\w.cell? ⟨g,5,none⟩=some (.bool y03)/\w.cell? ⟨g,6,none⟩=some (.bool y04)/\w.cell? ⟨g,7,none⟩=some (.bool y05)/\w.cell? ⟨g,8,none⟩=some (.bool y06)/\w.cell? ⟨g,9,none⟩=some (.bool y07)/\w.cell? ⟨g,10,none⟩=some (.int .i64 f0)/\w.cell? ⟨g,11,none⟩=some (.int .i64 4)/\w.cell? ⟨g,12,none⟩=some (.int .u64 A1)/\w.cell? ⟨g,13,none⟩=some (.int .u64 X1)/\w.cell? ⟨g,14,none⟩=some (.bool y10)/\w.cell? ⟨g,15,none⟩=some (.bool y11)/\w.cell? ⟨g,16,none⟩=some (.bool y12)/\w.cell? ⟨g,17,none⟩=some (.bool y13)/\w.cell? ⟨g,18,none⟩=some (.bool y14)/\w.cell? ⟨g,19,none⟩=some (.bool y15)/\w.cell? ⟨g,20,none⟩=some (.bool y16)/\w.cell? ⟨g,21,none⟩=some (.bool y17)/\w.cell? ⟨g,22,none⟩=some (.int .i64 f1)/\w.cell? ⟨g,23,none⟩=some (.int .i64 3)/\w.cell? ⟨g,24,none⟩=some (.int .u64 A2)/\w.cell? ⟨g,25,none⟩=some (.int .u64 X2)/\w.cell? ⟨g,26,none⟩=some (.bool y20)/\w.cell? ⟨g,27,none⟩=some (.bool y21)/\w.cell? ⟨g,28,none⟩=some (.bool y22)/\w.cell? ⟨g,29,none⟩=some (.bool y23)/\w.cell? ⟨g,30,none⟩=some (.bool y24)/\w.cell? ⟨g,31,none⟩=some (.bool true)/\w.cell? ⟨g,32,none⟩=some (.bool y26)/\w.cell? ⟨g,33,none⟩=some (.bool y27)/\w.cell? ⟨g,34,none⟩=some (.int .i64 f2)/\w.cell? ⟨g,35,none⟩=some (.int .i64 2)):=⟨q0,q1,q2,q3,q4,q5,q6,q7,q8,q9,q10,q11,q12,q13,q14,q15,q16,q17,q18,q19,q20,q21,q22,q23,q24,q25,q26,q27,q28,q29,q30,q31,q32,q33,q34,q35⟩
 clear hc hrow hlen q0 q1 q2 q3 q4 q5 q6 q7 q8 q9 q10 q11 q12 q13 q14 q15 q16 q17 q18 q19 q20 q21 q22 q23 q24 q25 q26 q27 q28 q29 q30 q31 q32 q33 q34 q35
 obtain ⟨W0,hW0⟩: ∃ b:Bool,b=true:=⟨_,rfl⟩
 obtain ⟨U0,hU0⟩: ∃ b:Bool,b=true:=⟨_,rfl⟩
 obtain ⟨E0,hE0⟩: ∃ b:Bool,b=true:=⟨_,rfl⟩
 obtain ⟨W1,hW1⟩: ∃ b:Bool,b=(true && y01):=⟨_,rfl⟩
 obtain ⟨U1,hU1⟩: ∃ b:Bool,b=(true && y02):=⟨_,rfl⟩
 obtain ⟨E1,hE1⟩: ∃ b:Bool,b=(true && !y07):=⟨_,rfl⟩
 obtain ⟨W2,hW2⟩: ∃ b:Bool,b=((true && y01) && y11):=⟨_,rfl⟩
 obtain ⟨U2,hU2⟩: ∃ b:Bool,b=((true && y02) && y12):=⟨_,rfl⟩
 obtain ⟨E2,hE2⟩: ∃ b:Bool,b=((true && !y07) && !y17):=⟨_,rfl⟩
 obtain ⟨W3,hW3⟩: ∃ b:Bool,b=(((true && y01) && y11) && y21):=⟨_,rfl⟩
 obtain ⟨U3,hU3⟩: ∃ b:Bool,b=(((true && y02) && y12) && y22):=⟨_,rfl⟩
 obtain ⟨E3,hE3⟩: ∃ b:Bool,b=(((true && !y07) && !y17) && !y27):=⟨_,rfl⟩
 have SW0:Hid (W1=(W0 && y01)):=by rw [hW1,hW0];rfl
 have SU0:Hid (U1=(U0 && y02)):=by rw [hU1,hU0];rfl
 have SE0:Hid (E1=(E0 && !y07)):=by rw [hE1,hE0];rfl
 have SW1:Hid (W2=(W1 && y11)):=by rw [hW2,hW1];rfl
 have SU1:Hid (U2=(U1 && y12)):=by rw [hU2,hU1];rfl
 have SE1:Hid (E2=(E1 && !y17)):=by rw [hE2,hE1];rfl
 have SW2:Hid (W3=(W2 && y21)):=by rw [hW3,hW2];rfl
 have SU2:Hid (U3=(U2 && y22)):=by rw [hU3,hU2];rfl
 have SE2:Hid (E3=(E2 && !y27)):=by rw [hE3,hE2];rfl
 have W0t:Hid (W0=true/\U0=true/\E0=true):=⟨hW0,hU0,hE0⟩
 rw [<- hW3,<- hU3,<- hE3]
 clear hW0 hU0 hE0 hW1 hU1 hE1 hW2 hU2 hE2 hW3 hU3 hE3
 have G2:Hid (g<w.heap.size):=hg2
 go_enter Tryd.func52,Tryd.ntmps52
 go_wp2_with fail
 go_loopw [9] (fun i wr=>(i=.int .i64 0/\CI w wr W0 U0 E0)\/(i=.int .i64 1/\CI w wr W1 U1 E1)\/(i=.int .i64 2/\CI w wr W2 U2 E2)\/(i=.int .i64 3/\CI w wr W3 U3 E3)) (fun i _=>(8-intOf i).toNat)
 case atStart=>exact Or.inl ⟨rfl,by rw [W0t.out.1,W0t.out.2.1,W0t.out.2.2];exact CI.made w _ _ _⟩
 case round =>
  rcases hrel with ⟨rfl,hci⟩ | ⟨rfl,hci⟩ | ⟨rfl,hci⟩ | ⟨rfl,hci⟩
  . have HCI:Hid (CI w wr W0 U0 E0):=hci
    obtain ⟨r0,r1,r2,hr,hp,hbw⟩:=hci
    have zp:w.heap.size+1<wr.heap.size:=(Array.getElem?_eq_some_iff.1 hp).1
    have p0:wr.cell? ⟨w.heap.size+1,0,none⟩=some (.bool W0):=Go.Joins.cell_of_block hp 0
    have p1:wr.cell? ⟨w.heap.size+1,1,none⟩=some (.bool U0):=Go.Joins.cell_of_block hp 1
    have p2:wr.cell? ⟨w.heap.size+1,2,none⟩=some (.bool E0):=Go.Joins.cell_of_block hp 2
    have z0:wr.frozen? ⟨w.heap.size+1,0,none⟩=false:=Go.Joins.unfrozen_of_block hp 0
    have z1:wr.frozen? ⟨w.heap.size+1,1,none⟩=false:=Go.Joins.unfrozen_of_block hp 1
    have z2:wr.frozen? ⟨w.heap.size+1,2,none⟩=false:=Go.Joins.unfrozen_of_block hp 2
    have c0:wr.cell? ⟨g,0,none⟩=some (.int .u64 A0):=cell_next hbw G2.out (Q.out.1)
    have c1:wr.cell? ⟨g,1,none⟩=some (.int .u64 X0):=cell_next hbw G2.out (Q.out.2.1)
    have c2:wr.cell? ⟨g,2,none⟩=some (.bool y00):=cell_next hbw G2.out (Q.out.2.2.1)
    have c3:wr.cell? ⟨g,3,none⟩=some (.bool y01):=cell_next hbw G2.out (Q.out.2.2.2.1)
    have c4:wr.cell? ⟨g,4,none⟩=some (.bool y02):=cell_next hbw G2.out (Q.out.2.2.2.2.1)
    have c5:wr.cell? ⟨g,5,none⟩=some (.bool y03):=cell_next hbw G2.out (Q.out.2.2.2.2.2.1)
    have c6:wr.cell? ⟨g,6,none⟩=some (.bool y04):=cell_next hbw G2.out (Q.out.2.2.2.2.2.2.1)
    have c7:wr.cell? ⟨g,7,none⟩=some (.bool y05):=cell_next hbw G2.out (Q.out.2.2.2.2.2.2.2.1)
    have c8:wr.cell? ⟨g,8,none⟩=some (.bool y06):=cell_next hbw G2.out (Q.out.2.2.2.2.2.2.2.2.1)
    have c9:wr.cell? ⟨g,9,none⟩=some (.bool y07):=cell_next hbw G2.out (Q.out.2.2.2.2.2.2.2.2.2.1)
    have c10:wr.cell? ⟨g,10,none⟩=some (.int .i64 f0):=cell_next hbw G2.out (Q.out.2.2.2.2.2.2.2.2.2.2.1)
    have c11:wr.cell? ⟨g,11,none⟩=some (.int .i64 4):=cell_next hbw G2.out (Q.out.2.2.2.2.2.2.2.2.2.2.2.1)
    have gz:g<wr.heap.size:=Nat.lt_of_lt_of_le G2.out hbw.size
    have gn: ¬ g=w.heap.size+1:=by have:=G2.out;omega
    clear hr hp hbw
    have sw:=SW0.out
    have su:=SU0.out
    have se:=SE0.out
    cases W0 <;> cases U0 <;> cases E0
    all_goals
     simp only [Bool.true_and,Bool.false_and] at sw su se
     have SS:Hid (W1=_/\U1=_/\E1=_):=⟨sw,su,se⟩
     clear sw su se
     go_wp2_with fail
     go_roundw
     case rel=>rw [SS.out.1,SS.out.2.1,SS.out.2.2];exact Or.inr (Or.inl ⟨rfl,HCI.out.next _ _ _ _⟩)
     case measure=>simp [intOf]
  . have HCI:Hid (CI w wr W1 U1 E1):=hci
    obtain ⟨r0,r1,r2,hr,hp,hbw⟩:=hci
    have zp:w.heap.size+1<wr.heap.size:=(Array.getElem?_eq_some_iff.1 hp).1
    have p0:wr.cell? ⟨w.heap.size+1,0,none⟩=some (.bool W1):=Go.Joins.cell_of_block hp 0
    have p1:wr.cell? ⟨w.heap.size+1,1,none⟩=some (.bool U1):=Go.Joins.cell_of_block hp 1
    have p2:wr.cell? ⟨w.heap.size+1,2,none⟩=some (.bool E1):=Go.Joins.cell_of_block hp 2
    have z0:wr.frozen? ⟨w.heap.size+1,0,none⟩=false:=Go.Joins.unfrozen_of_block hp 0
    have z1:wr.frozen? ⟨w.heap.size+1,1,none⟩=false:=Go.Joins.unfrozen_of_block hp 1
    have z2:wr.frozen? ⟨w.heap.size+1,2,none⟩=false:=Go.Joins.unfrozen_of_block hp 2
    have c0:wr.cell? ⟨g,12,none⟩=some (.int .u64 A1):=cell_next hbw G2.out (Q.out.2.2.2.2.2.2.2.2.2.2.2.2.1)
    have c1:wr.cell? ⟨g,13,none⟩=some (.int .u64 X1):=cell_next hbw G2.out (Q.out.2.2.2.2.2.2.2.2.2.2.2.2.2.1)
    have c2:wr.cell? ⟨g,14,none⟩=some (.bool y10):=cell_next hbw G2.out (Q.out.2.2.2.2.2.2.2.2.2.2.2.2.2.2.1)
    have c3:wr.cell? ⟨g,15,none⟩=some (.bool y11):=cell_next hbw G2.out (Q.out.2.2.2.2.2.2.2.2.2.2.2.2.2.2.2.1)
    have c4:wr.cell? ⟨g,16,none⟩=some (.bool y12):=cell_next hbw G2.out (Q.out.2.2.2.2.2.2.2.2.2.2.2.2.2.2.2.2.1)
    have c5:wr.cell? ⟨g,17,none⟩=some (.bool y13):=cell_next hbw G2.out (Q.out.2.2.2.2.2.2.2.2.2.2.2.2.2.2.2.2.2.1)
    have c6:wr.cell? ⟨g,18,none⟩=some (.bool y14):=cell_next hbw G2.out (Q.out.2.2.2.2.2.2.2.2.2.2.2.2.2.2.2.2.2.2.1)
    have c7:wr.cell? ⟨g,19,none⟩=some (.bool y15):=cell_next hbw G2.out (Q.out.2.2.2.2.2.2.2.2.2.2.2.2.2.2.2.2.2.2.2.1)
    have c8:wr.cell? ⟨g,20,none⟩=some (.bool y16):=cell_next hbw G2.out (Q.out.2.2.2.2.2.2.2.2.2.2.2.2.2.2.2.2.2.2.2.2.1)
    have c9:wr.cell? ⟨g,21,none⟩=some (.bool y17):=cell_next hbw G2.out (Q.out.2.2.2.2.2.2.2.2.2.2.2.2.2.2.2.2.2.2.2.2.2.1)
    have c10:wr.cell? ⟨g,22,none⟩=some (.int .i64 f1):=cell_next hbw G2.out (Q.out.2.2.2.2.2.2.2.2.2.2.2.2.2.2.2.2.2.2.2.2.2.2.1)
    have c11:wr.cell? ⟨g,23,none⟩=some (.int .i64 3):=cell_next hbw G2.out (Q.out.2.2.2.2.2.2.2.2.2.2.2.2.2.2.2.2.2.2.2.2.2.2.2.1)
    have gz:g<wr.heap.size:=Nat.lt_of_lt_of_le G2.out hbw.size
    have gn: ¬ g=w.heap.size+1:=by have:=G2.out;omega
    clear hr hp hbw
    have sw:=SW1.out
    have su:=SU1.out
    have se:=SE1.out
    cases W1 <;> cases U1 <;> cases E1
    all_goals
     simp only [Bool.true_and,Bool.false_and] at sw su se
     have SS:Hid (W2=_/\U2=_/\E2=_):=⟨sw,su,se⟩
     clear sw su se
     go_wp2_with fail
     go_roundw
     case rel=>rw [SS.out.1,SS.out.2.1,SS.out.2.2];exact Or.inr (Or.inr (Or.inl ⟨rfl,HCI.out.next _ _ _ _⟩))
     case measure=>simp [intOf]
  . have HCI:Hid (CI w wr W2 U2 E2):=hci
    obtain ⟨r0,r1,r2,hr,hp,hbw⟩:=hci
    have zp:w.heap.size+1<wr.heap.size:=(Array.getElem?_eq_some_iff.1 hp).1
    have p0:wr.cell? ⟨w.heap.size+1,0,none⟩=some (.bool W2):=Go.Joins.cell_of_block hp 0
    have p1:wr.cell? ⟨w.heap.size+1,1,none⟩=some (.bool U2):=Go.Joins.cell_of_block hp 1
    have p2:wr.cell? ⟨w.heap.size+1,2,none⟩=some (.bool E2):=Go.Joins.cell_of_block hp 2
    have z0:wr.frozen? ⟨w.heap.size+1,0,none⟩=false:=Go.Joins.unfrozen_of_block hp 0
    have z1:wr.frozen? ⟨w.heap.size+1,1,none⟩=false:=Go.Joins.unfrozen_of_block hp 1
    have z2:wr.frozen? ⟨w.heap.size+1,2,none⟩=false:=Go.Joins.unfrozen_of_block hp 2
    have c0:wr.cell? ⟨g,24,none⟩=some (.int .u64 A2):=cell_next hbw G2.out (Q.out.2.2.2.2.2.2.2.2.2.2.2.2.2.2.2.2.2.2.2.2.2.2.2.2.1)
    have c1:wr.cell? ⟨g,25,none⟩=some (.int .u64 X2):=cell_next hbw G2.out (Q.out.2.2.2.2.2.2.2.2.2.2.2.2.2.2.2.2.2.2.2.2.2.2.2.2.2.1)
    have c2:wr.cell? ⟨g,26,none⟩=some (.bool y20):=cell_next hbw G2.out (Q.out.2.2.2.2.2.2.2.2.2.2.2.2.2.2.2.2.2.2.2.2.2.2.2.2.2.2.1)
    have c3:wr.cell? ⟨g,27,none⟩=some (.bool y21):=cell_next hbw G2.out (Q.out.2.2.2.2.2.2.2.2.2.2.2.2.2.2.2.2.2.2.2.2.2.2.2.2.2.2.2.1)
    have c4:wr.cell? ⟨g,28,none⟩=some (.bool y22):=cell_next hbw G2.out (Q.out.2.2.2.2.2.2.2.2.2.2.2.2.2.2.2.2.2.2.2.2.2.2.2.2.2.2.2.2.1)
    have c5:wr.cell? ⟨g,29,none⟩=some (.bool y23):=cell_next hbw G2.out (Q.out.2.2.2.2.2.2.2.2.2.2.2.2.2.2.2.2.2.2.2.2.2.2.2.2.2.2.2.2.2.1)
    have c6:wr.cell? ⟨g,30,none⟩=some (.bool y24):=cell_next hbw G2.out (Q.out.2.2.2.2.2.2.2.2.2.2.2.2.2.2.2.2.2.2.2.2.2.2.2.2.2.2.2.2.2.2.1)
    have c7:wr.cell? ⟨g,31,none⟩=some (.bool true):=cell_next hbw G2.out (Q.out.2.2.2.2.2.2.2.2.2.2.2.2.2.2.2.2.2.2.2.2.2.2.2.2.2.2.2.2.2.2.2.1)
    have c8:wr.cell? ⟨g,32,none⟩=some (.bool y26):=cell_next hbw G2.out (Q.out.2.2.2.2.2.2.2.2.2.2.2.2.2.2.2.2.2.2.2.2.2.2.2.2.2.2.2.2.2.2.2.2.1)
    have c9:wr.cell? ⟨g,33,none⟩=some (.bool y27):=cell_next hbw G2.out (Q.out.2.2.2.2.2.2.2.2.2.2.2.2.2.2.2.2.2.2.2.2.2.2.2.2.2.2.2.2.2.2.2.2.2.1)
    have c10:wr.cell? ⟨g,34,none⟩=some (.int .i64 f2):=cell_next hbw G2.out (Q.out.2.2.2.2.2.2.2.2.2.2.2.2.2.2.2.2.2.2.2.2.2.2.2.2.2.2.2.2.2.2.2.2.2.2.1)
    have c11:wr.cell? ⟨g,35,none⟩=some (.int .i64 2):=cell_next hbw G2.out (Q.out.2.2.2.2.2.2.2.2.2.2.2.2.2.2.2.2.2.2.2.2.2.2.2.2.2.2.2.2.2.2.2.2.2.2.2)
    have gz:g<wr.heap.size:=Nat.lt_of_lt_of_le G2.out hbw.size
    have gn: ¬ g=w.heap.size+1:=by have:=G2.out;omega
    clear hr hp hbw
    have sw:=SW2.out
    have su:=SU2.out
    have se:=SE2.out
    cases W2 <;> cases U2 <;> cases E2
    all_goals
     simp only [Bool.true_and,Bool.false_and] at sw su se
     have SS:Hid (W3=_/\U3=_/\E3=_):=⟨sw,su,se⟩
     clear sw su se
     go_wp2_with fail
     go_roundw
     case rel=>rw [SS.out.1,SS.out.2.1,SS.out.2.2];exact Or.inr (Or.inr (Or.inr (⟨rfl,HCI.out.next _ _ _ _⟩)))
     case measure=>simp [intOf]
  . have HCI:Hid (CI w wr W3 U3 E3):=hci
    obtain ⟨r0,r1,r2,hr,hp,hbw⟩:=hci
    have zp:w.heap.size+1<wr.heap.size:=(Array.getElem?_eq_some_iff.1 hp).1
    have p0:wr.cell? ⟨w.heap.size+1,0,none⟩=some (.bool W3):=Go.Joins.cell_of_block hp 0
    have p1:wr.cell? ⟨w.heap.size+1,1,none⟩=some (.bool U3):=Go.Joins.cell_of_block hp 1
    have p2:wr.cell? ⟨w.heap.size+1,2,none⟩=some (.bool E3):=Go.Joins.cell_of_block hp 2
    have z0:wr.frozen? ⟨w.heap.size+1,0,none⟩=false:=Go.Joins.unfrozen_of_block hp 0
    have z1:wr.frozen? ⟨w.heap.size+1,1,none⟩=false:=Go.Joins.unfrozen_of_block hp 1
    have z2:wr.frozen? ⟨w.heap.size+1,2,none⟩=false:=Go.Joins.unfrozen_of_block hp 2
    have y0:wr.cell? ⟨w.heap.size,0,none⟩=some r0:=Go.Joins.cell_of_block hr 0
    have y1:wr.cell? ⟨w.heap.size,1,none⟩=some r1:=Go.Joins.cell_of_block hr 1
    have y2:wr.cell? ⟨w.heap.size,2,none⟩=some r2:=Go.Joins.cell_of_block hr 2
    have x0:wr.frozen? ⟨w.heap.size,0,none⟩=false:=Go.Joins.unfrozen_of_block hr 0
    have x1:wr.frozen? ⟨w.heap.size,1,none⟩=false:=Go.Joins.unfrozen_of_block hr 1
    have x2:wr.frozen? ⟨w.heap.size,2,none⟩=false:=Go.Joins.unfrozen_of_block hr 2
    have HB:Hid (Below w.heap.size w wr):=hbw
    have HR:Hid (wr.heap[w.heap.size]? =some (.cells #[r0,r1,r2] 40 (0,0))):=hr
    clear hr hp hbw
    go_wp2_with fail
    refine bodyPost_ret (v:=.agg #[.bool W3,.bool U3,.bool E3]) ?_ rfl ?_
    . rw [results_cell1 Tryd.results52]
      exact run_loadVar_row _ w.heap.size 40 40 #[.bool W3,.bool U3,.bool E3] (0,0) _ (Go.Joins.block_setCell (i:=2) (Go.Joins.block_setCell (i:=1) (Go.Joins.block_setCell (i:=0) HR.out (.bool W3)) (.bool U3)) (.bool E3)) Tryd.underlying40 rfl perm_info
    . exact ⟨rfl,((HB.out.setCell (Nat.le_refl _) _).setCell (Nat.le_refl _) _).setCell (Nat.le_refl _) _⟩
set_option maxHeartbeats 4000000 in
theorem common4 (A0 X0 f0:Int) (y00 y01 y02 y03 y04 y05 y06 y07:Bool) (A1 X1 f1:Int) (y10 y11 y12 y13 y14 y15 y16 y17:Bool) (A2 X2 f2:Int) (y20 y21 y22 y23 y24 y26 y27:Bool) (A3 X3 f3:Int) (y30 y31 y32 y33 y34 y35 y36 y37:Bool) (base:Nat) (v:Value) (w:World) (h:Way w base v 4 ((((([]:List Value)++([.int .u64 A0,.int .u64 X0,.bool y00,.bool y01,.bool y02,.bool y03,.bool y04,.bool y05,.bool y06,.bool y07,.int .i64 f0,.int .i64 4]:List Value))++([.int .u64 A1,.int .u64 X1,.bool y10,.bool y11,.bool y12,.bool y13,.bool y14,.bool y15,.bool y16,.bool y17,.int .i64 f1,.int .i64 3]:List Value))++([.int .u64 A2,.int .u64 X2,.bool y20,.bool y21,.bool y22,.bool y23,.bool y24,.bool false,.bool y26,.bool y27,.int .i64 f2,.int .i64 2]:List Value))++([.int .u64 A3,.int .u64 X3,.bool y30,.bool y31,.bool y32,.bool y33,.bool y34,.bool y35,.bool y36,.bool y37,.int .i64 f3,.int .i64 1]:List Value))) :
 Calls Tryd.prog 52 #[v] w fun e w'=>e=.returned (.agg #[.bool ((((true && y01) && y11) && y21) && y31),.bool ((((true && y02) && y12) && y22) && y32),.bool ((((true && !y07) && !y17) && !y27) && !y37)])/\Below w.heap.size w w':=by
 obtain ⟨⟨hlen,hrow⟩,g,cap,rfl,hg1,hg2⟩:=h
 have hc: ∀ (j:Nat) (x:Value),((((([]:List Value)++([.int .u64 A0,.int .u64 X0,.bool y00,.bool y01,.bool y02,.bool y03,.bool y04,.bool y05,.bool y06,.bool y07,.int .i64 f0,.int .i64 4]:List Value))++([.int .u64 A1,.int .u64 X1,.bool y10,.bool y11,.bool y12,.bool y13,.bool y14,.bool y15,.bool y16,.bool y17,.int .i64 f1,.int .i64 3]:List Value))++([.int .u64 A2,.int .u64 X2,.bool y20,.bool y21,.bool y22,.bool y23,.bool y24,.bool false,.bool y26,.bool y27,.int .i64 f2,.int .i64 2]:List Value))++([.int .u64 A3,.int .u64 X3,.bool y30,.bool y31,.bool y32,.bool y33,.bool y34,.bool y35,.bool y36,.bool y37,.int .i64 f3,.int .i64 1]:List Value))[j]? =some x->w.cell? ⟨g,j,none⟩=some x:=way_cell hrow hg2
 have q0:w.cell? ⟨g,0,none⟩=some (.int .u64 A0):=hc 0 _ rfl
 have q1:w.cell? ⟨g,1,none⟩=some (.int .u64 X0):=hc 1 _ rfl
 have q2:w.cell? ⟨g,2,none⟩=some (.bool y00):=hc 2 _ rfl
 have q3:w.cell? ⟨g,3,none⟩=some (.bool y01):=hc 3 _ rfl
 have q4:w.cell? ⟨g,4,none⟩=some (.bool y02):=hc 4 _ rfl
 have q5:w.cell? ⟨g,5,none⟩=some (.bool y03):=hc 5 _ rfl
 have q6:w.cell? ⟨g,6,none⟩=some (.bool y04):=hc 6 _ rfl
 have q7:w.cell? ⟨g,7,none⟩=some (.bool y05):=hc 7 _ rfl
 have q8:w.cell? ⟨g,8,none⟩=some (.bool y06):=hc 8 _ rfl
 have q9:w.cell? ⟨g,9,none⟩=some (.bool y07):=hc 9 _ rfl
 have q10:w.cell? ⟨g,10,none⟩=some (.int .i64 f0):=hc 10 _ rfl
 have q11:w.cell? ⟨g,11,none⟩=some (.int .i64 4):=hc 11 _ rfl
 have q12:w.cell? ⟨g,12,none⟩=some (.int .u64 A1):=hc 12 _ rfl
 have q13:w.cell? ⟨g,13,none⟩=some (.int .u64 X1):=hc 13 _ rfl
 have q14:w.cell? ⟨g,14,none⟩=some (.bool y10):=hc 14 _ rfl
 have q15:w.cell? ⟨g,15,none⟩=some (.bool y11):=hc 15 _ rfl
 have q16:w.cell? ⟨g,16,none⟩=some (.bool y12):=hc 16 _ rfl
 have q17:w.cell? ⟨g,17,none⟩=some (.bool y13):=hc 17 _ rfl
 have q18:w.cell? ⟨g,18,none⟩=some (.bool y14):=hc 18 _ rfl
 have q19:w.cell? ⟨g,19,none⟩=some (.bool y15):=hc 19 _ rfl
 have q20:w.cell? ⟨g,20,none⟩=some (.bool y16):=hc 20 _ rfl
 have q21:w.cell? ⟨g,21,none⟩=some (.bool y17):=hc 21 _ rfl
 have q22:w.cell? ⟨g,22,none⟩=some (.int .i64 f1):=hc 22 _ rfl
 have q23:w.cell? ⟨g,23,none⟩=some (.int .i64 3):=hc 23 _ rfl
 have q24:w.cell? ⟨g,24,none⟩=some (.int .u64 A2):=hc 24 _ rfl
 have q25:w.cell? ⟨g,25,none⟩=some (.int .u64 X2):=hc 25 _ rfl
 have q26:w.cell? ⟨g,26,none⟩=some (.bool y20):=hc 26 _ rfl
 have q27:w.cell? ⟨g,27,none⟩=some (.bool y21):=hc 27 _ rfl
 have q28:w.cell? ⟨g,28,none⟩=some (.bool y22):=hc 28 _ rfl
 have q29:w.cell? ⟨g,29,none⟩=some (.bool y23):=hc 29 _ rfl
 have q30:w.cell? ⟨g,30,none⟩=some (.bool y24):=hc 30 _ rfl
 have q31:w.cell? ⟨g,31,none⟩=some (.bool false):=hc 31 _ rfl
 have q32:w.cell? ⟨g,32,none⟩=some (.bool y26):=hc 32 _ rfl
 have q33:w.cell? ⟨g,33,none⟩=some (.bool y27):=hc 33 _ rfl
 have q34:w.cell? ⟨g,34,none⟩=some (.int .i64 f2):=hc 34 _ rfl
 have q35:w.cell? ⟨g,35,none⟩=some (.int .i64 2):=hc 35 _ rfl
 have q36:w.cell? ⟨g,36,none⟩=some (.int .u64 A3):=hc 36 _ rfl
 have q37:w.cell? ⟨g,37,none⟩=some (.int .u64 X3):=hc 37 _ rfl
 have q38:w.cell? ⟨g,38,none⟩=some (.bool y30):=hc 38 _ rfl
 have q39:w.cell? ⟨g,39,none⟩=some (.bool y31):=hc 39 _ rfl
 have q40:w.cell? ⟨g,40,none⟩=some (.bool y32):=hc 40 _ rfl
 have q41:w.cell? ⟨g,41,none⟩=some (.bool y33):=hc 41 _ rfl
 have q42:w.cell? ⟨g,42,none⟩=some (.bool y34):=hc 42 _ rfl
 have q43:w.cell? ⟨g,43,none⟩=some (.bool y35):=hc 43 _ rfl
 have q44:w.cell? ⟨g,44,none⟩=some (.bool y36):=hc 44 _ rfl
 have q45:w.cell? ⟨g,45,none⟩=some (.bool y37):=hc 45 _ rfl
 have q46:w.cell? ⟨g,46,none⟩=some (.int .i64 f3):=hc 46 _ rfl
 have q47:w.cell? ⟨g,47,none⟩=some (.int .i64 1):=hc 47 _ rfl
 have Q:Hid (w.cell? ⟨g,0,none⟩=some (.int .u64 A0)/\w.cell? ⟨g,1,none⟩=some (.int .u64 X0)/\w.cell? ⟨g,2,none⟩=some (.bool y00)/\w.cell? ⟨g,3,none⟩=some (.bool y01)/\w.cell? ⟨g,4,none⟩=some (.bool y02)/\w.cell? ⟨g,5,none⟩=some (.bool y03)/\w.cell? ⟨g,6,none⟩=some (.bool y04)/\w.cell? ⟨g,7,none⟩=some (.bool y05)/\w.cell? ⟨g,8,none⟩=some (.bool y06)/\w.cell? ⟨g,9,none⟩=some (.bool y07)/\w.cell? ⟨g,10,none⟩=some (.int .i64 f0)/\w.cell? ⟨g,11,none⟩=some (.int .i64 4)/\w.cell? ⟨g,12,none⟩=some (.int .u64 A1)/\w.cell? ⟨g,13,none⟩=some (.int .u64 X1)/\w.cell? ⟨g,14,none⟩=some (.bool y10)/\w.cell? ⟨g,15,none⟩=some (.bool y11)/\w.cell? ⟨g,16,none⟩=some (.bool y12)/\w.cell? ⟨g,17,none⟩=some (.bool y13)/\w.cell? ⟨g,18,none⟩=some (.bool y14)/\w.cell? ⟨g,19,none⟩=some (.bool y15)/\w.cell? ⟨g,20,none⟩=some (.bool y16)/\w.cell? ⟨g,21,none⟩=some (.bool y17)/\w.cell? ⟨g,22,none⟩=some (.int .i64 f1)/\w.cell? ⟨g,23,none⟩=some (.int .i64 3)/\w.cell? ⟨g,24,none⟩=some (.int .u64 A2)/\w.cell? ⟨g,25,none⟩=some (.int .u64 X2)/\w.cell? ⟨g,26,none⟩=some (.bool y20)/\w.cell? ⟨g,27,none⟩=some (.bool y21)/\w.cell? ⟨g,28,none⟩=some (.bool y22)/\w.cell? ⟨g,29,none⟩=some (.bool y23)/\w.cell? ⟨g,30,none⟩=some (.bool y24)/\w.cell? ⟨g,31,none⟩=some (.bool false)/\w.cell? ⟨g,32,none⟩=some (.bool y26)/\w.cell? ⟨g,33,none⟩=some (.bool y27)/\w.cell? ⟨g,34,none⟩=some (.int .i64 f2)/\w.cell? ⟨g,35,none⟩=some (.int .i64 2)/\w.cell? ⟨g,36,none⟩=some (.int .u64 A3)/\w.cell? ⟨g,37,none⟩=some (.int .u64 X3)/\w.cell? ⟨g,38,none⟩=some (.bool y30)/\w.cell? ⟨g,39,none⟩=some (.bool y31)/\w.cell? ⟨g,40,none⟩=some (.bool y32)/\w.cell? ⟨g,41,none⟩=some (.bool y33)/\w.cell? ⟨g,42,none⟩=some (.bool y34)/\w.cell? ⟨g,43,none⟩=some (.bool y35)/\w.cell? ⟨g,44,none⟩=some (.bool y36)/\w.cell? ⟨g,45,none⟩=some (.bool y37)/\w.cell? ⟨g,46,none⟩=some (.int .i64 f3)/\w.cell? ⟨g,47,none⟩=some (.int .i64 1)):=⟨q0,q1,q2,q3,q4,q5,q6,q7,q8,q9,q10,q11,q12,q13,q14,q15,q16,q17,q18,q19,q20,q21,q22,q23,q24,q25,q26,q27,q28,q29,q30,q31,q32,q33,q34,q35,q36,q37,q38,q39,q40,q41,q42,q43,q44,q45,q46,q47⟩
 clear hc hrow hlen q0 q1 q2 q3 q4 q5 q6 q7 q8 q9 q10 q11 q12 q13 q14 q15 q16 q17 q18 q19 q20 q21 q22 q23 q24 q25 q26 q27 q28 q29 q30 q31 q32 q33 q34 q35 q36 q37 q38 q39 q40 q41 q42 q43 q44 q45 q46 q47
 obtain ⟨W0,hW0⟩: ∃ b:Bool,b=true:=⟨_,rfl⟩
 obtain ⟨U0,hU0⟩: ∃ b:Bool,b=true:=⟨_,rfl⟩
 obtain ⟨E0,hE0⟩: ∃ b:Bool,b=true:=⟨_,rfl⟩
 obtain ⟨W1,hW1⟩: ∃ b:Bool,b=(true && y01):=⟨_,rfl⟩
 obtain ⟨U1,hU1⟩: ∃ b:Bool,b=(true && y02):=⟨_,rfl⟩
 obtain ⟨E1,hE1⟩: ∃ b:Bool,b=(true && !y07):=⟨_,rfl⟩
 obtain ⟨W2,hW2⟩: ∃ b:Bool,b=((true && y01) && y11):=⟨_,rfl⟩
 obtain ⟨U2,hU2⟩: ∃ b:Bool,b=((true && y02) && y12):=⟨_,rfl⟩
 obtain ⟨E2,hE2⟩: ∃ b:Bool,b=((true && !y07) && !y17):=⟨_,rfl⟩
 obtain ⟨W3,hW3⟩: ∃ b:Bool,b=(((true && y01) && y11) && y21):=⟨_,rfl⟩
 obtain ⟨U3,hU3⟩: ∃ b:Bool,b=(((true && y02) && y12) && y22):=⟨_,rfl⟩
 obtain ⟨E3,hE3⟩: ∃ b:Bool,b=(((true && !y07) && !y17) && !y27):=⟨_,rfl⟩
 obtain ⟨W4,hW4⟩: ∃ b:Bool,b=((((true && y01) && y11) && y21) && y31):=⟨_,rfl⟩
 obtain ⟨U4,hU4⟩: ∃ b:Bool,b=((((true && y02) && y12) && y22) && y32):=⟨_,rfl⟩
 obtain ⟨E4,hE4⟩: ∃ b:Bool,b=((((true && !y07) && !y17) && !y27) && !y37):=⟨_,rfl⟩
 have SW0:Hid (W1=(W0 && y01)):=by rw [hW1,hW0];rfl
 have SU0:Hid (U1=(U0 && y02)):=by rw [hU1,hU0];rfl
 have SE0:Hid (E1=(E0 && !y07)):=by rw [hE1,hE0];rfl
 have SW1:Hid (W2=(W1 && y11)):=by rw [hW2,hW1];rfl
 have SU1:Hid (U2=(U1 && y12)):=by rw [hU2,hU1];rfl
 have SE1:Hid (E2=(E1 && !y17)):=by rw [hE2,hE1];rfl
 have SW2:Hid (W3=(W2 && y21)):=by rw [hW3,hW2];rfl
 have SU2:Hid (U3=(U2 && y22)):=by rw [hU3,hU2];rfl
 have SE2:Hid (E3=(E2 && !y27)):=by rw [hE3,hE2];rfl
 have SW3:Hid (W4=(W3 && y31)):=by rw [hW4,hW3];rfl
 have SU3:Hid (U4=(U3 && y32)):=by rw [hU4,hU3];rfl
 have SE3:Hid (E4=(E3 && !y37)):=by rw [hE4,hE3];rfl
 have W0t:Hid (W0=true/\U0=true/\E0=true):=⟨hW0,hU0,hE0⟩
 rw [<- hW4,<- hU4,<- hE4]
 clear hW0 hU0 hE0 hW1 hU1 hE1 hW2 hU2 hE2 hW3 hU3 hE3 hW4 hU4 hE4
 have G2:Hid (g<w.heap.size):=hg2
 go_enter Tryd.func52,Tryd.ntmps52
 go_wp2_with fail
 go_loopw [9] (fun i wr=>(i=.int .i64 0/\CI w wr W0 U0 E0)\/(i=.int .i64 1/\CI w wr W1 U1 E1)\/(i=.int .i64 2/\CI w wr W2 U2 E2)\/(i=.int .i64 3/\CI w wr W3 U3 E3)\/(i=.int .i64 4/\CI w wr W4 U4 E4)) (fun i _=>(8-intOf i).toNat)
 case atStart=>exact Or.inl ⟨rfl,by rw [W0t.out.1,W0t.out.2.1,W0t.out.2.2];exact CI.made w _ _ _⟩
 case round =>
  rcases hrel with ⟨rfl,hci⟩ | ⟨rfl,hci⟩ | ⟨rfl,hci⟩ | ⟨rfl,hci⟩ | ⟨rfl,hci⟩
  . have HCI:Hid (CI w wr W0 U0 E0):=hci
    obtain ⟨r0,r1,r2,hr,hp,hbw⟩:=hci
    have zp:w.heap.size+1<wr.heap.size:=(Array.getElem?_eq_some_iff.1 hp).1
    have p0:wr.cell? ⟨w.heap.size+1,0,none⟩=some (.bool W0):=Go.Joins.cell_of_block hp 0
    have p1:wr.cell? ⟨w.heap.size+1,1,none⟩=some (.bool U0):=Go.Joins.cell_of_block hp 1
    have p2:wr.cell? ⟨w.heap.size+1,2,none⟩=some (.bool E0):=Go.Joins.cell_of_block hp 2
    have z0:wr.frozen? ⟨w.heap.size+1,0,none⟩=false:=Go.Joins.unfrozen_of_block hp 0
    have z1:wr.frozen? ⟨w.heap.size+1,1,none⟩=false:=Go.Joins.unfrozen_of_block hp 1
    have z2:wr.frozen? ⟨w.heap.size+1,2,none⟩=false:=Go.Joins.unfrozen_of_block hp 2
    have c0:wr.cell? ⟨g,0,none⟩=some (.int .u64 A0):=cell_next hbw G2.out (Q.out.1)
    have c1:wr.cell? ⟨g,1,none⟩=some (.int .u64 X0):=cell_next hbw G2.out (Q.out.2.1)
    have c2:wr.cell? ⟨g,2,none⟩=some (.bool y00):=cell_next hbw G2.out (Q.out.2.2.1)
    have c3:wr.cell? ⟨g,3,none⟩=some (.bool y01):=cell_next hbw G2.out (Q.out.2.2.2.1)
    have c4:wr.cell? ⟨g,4,none⟩=some (.bool y02):=cell_next hbw G2.out (Q.out.2.2.2.2.1)
    have c5:wr.cell? ⟨g,5,none⟩=some (.bool y03):=cell_next hbw G2.out (Q.out.2.2.2.2.2.1)
    have c6:wr.cell? ⟨g,6,none⟩=some (.bool y04):=cell_next hbw G2.out (Q.out.2.2.2.2.2.2.1)
    have c7:wr.cell? ⟨g,7,none⟩=some (.bool y05):=cell_next hbw G2.out (Q.out.2.2.2.2.2.2.2.1)
    have c8:wr.cell? ⟨g,8,none⟩=some (.bool y06):=cell_next hbw G2.out (Q.out.2.2.2.2.2.2.2.2.1)
    have c9:wr.cell? ⟨g,9,none⟩=some (.bool y07):=cell_next hbw G2.out (Q.out.2.2.2.2.2.2.2.2.2.1)
    have c10:wr.cell? ⟨g,10,none⟩=some (.int .i64 f0):=cell_next hbw G2.out (Q.out.2.2.2.2.2.2.2.2.2.2.1)
    have c11:wr.cell? ⟨g,11,none⟩=some (.int .i64 4):=cell_next hbw G2.out (Q.out.2.2.2.2.2.2.2.2.2.2.2.1)
    have gz:g<wr.heap.size:=Nat.lt_of_lt_of_le G2.out hbw.size
    have gn: ¬ g=w.heap.size+1:=by have:=G2.out;omega
    clear hr hp hbw
    have sw:=SW0.out
    have su:=SU0.out
    have se:=SE0.out
    cases W0 <;> cases U0 <;> cases E0
    all_goals
     simp only [Bool.true_and,Bool.false_and] at sw su se
     have SS:Hid (W1=_/\U1=_/\E1=_):=⟨sw,su,se⟩
     clear sw su se
     go_wp2_with fail
     go_roundw
     case rel=>rw [SS.out.1,SS.out.2.1,SS.out.2.2];exact Or.inr (Or.inl ⟨rfl,HCI.out.next _ _ _ _⟩)
     case measure=>simp [intOf]
  . have HCI:Hid (CI w wr W1 U1 E1):=hci
    obtain ⟨r0,r1,r2,hr,hp,hbw⟩:=hci
    have zp:w.heap.size+1<wr.heap.size:=(Array.getElem?_eq_some_iff.1 hp).1
    have p0:wr.cell? ⟨w.heap.size+1,0,none⟩=some (.bool W1):=Go.Joins.cell_of_block hp 0
    have p1:wr.cell? ⟨w.heap.size+1,1,none⟩=some (.bool U1):=Go.Joins.cell_of_block hp 1
    have p2:wr.cell? ⟨w.heap.size+1,2,none⟩=some (.bool E1):=Go.Joins.cell_of_block hp 2
    have z0:wr.frozen? ⟨w.heap.size+1,0,none⟩=false:=Go.Joins.unfrozen_of_block hp 0
    have z1:wr.frozen? ⟨w.heap.size+1,1,none⟩=false:=Go.Joins.unfrozen_of_block hp 1
    have z2:wr.frozen? ⟨w.heap.size+1,2,none⟩=false:=Go.Joins.unfrozen_of_block hp 2
    have c0:wr.cell? ⟨g,12,none⟩=some (.int .u64 A1):=cell_next hbw G2.out (Q.out.2.2.2.2.2.2.2.2.2.2.2.2.1)
    have c1:wr.cell? ⟨g,13,none⟩=some (.int .u64 X1):=cell_next hbw G2.out (Q.out.2.2.2.2.2.2.2.2.2.2.2.2.2.1)
    have c2:wr.cell? ⟨g,14,none⟩=some (.bool y10):=cell_next hbw G2.out (Q.out.2.2.2.2.2.2.2.2.2.2.2.2.2.2.1)
    have c3:wr.cell? ⟨g,15,none⟩=some (.bool y11):=cell_next hbw G2.out (Q.out.2.2.2.2.2.2.2.2.2.2.2.2.2.2.2.1)
    have c4:wr.cell? ⟨g,16,none⟩=some (.bool y12):=cell_next hbw G2.out (Q.out.2.2.2.2.2.2.2.2.2.2.2.2.2.2.2.2.1)
    have c5:wr.cell? ⟨g,17,none⟩=some (.bool y13):=cell_next hbw G2.out (Q.out.2.2.2.2.2.2.2.2.2.2.2.2.2.2.2.2.2.1)
    have c6:wr.cell? ⟨g,18,none⟩=some (.bool y14):=cell_next hbw G2.out (Q.out.2.2.2.2.2.2.2.2.2.2.2.2.2.2.2.2.2.2.1)
    have c7:wr.cell? ⟨g,19,none⟩=some (.bool y15):=cell_next hbw G2.out (Q.out.2.2.2.2.2.2.2.2.2.2.2.2.2.2.2.2.2.2.2.1)
    have c8:wr.cell? ⟨g,20,none⟩=some (.bool y16):=cell_next hbw G2.out (Q.out.2.2.2.2.2.2.2.2.2.2.2.2.2.2.2.2.2.2.2.2.1)
    have c9:wr.cell? ⟨g,21,none⟩=some (.bool y17):=cell_next hbw G2.out (Q.out.2.2.2.2.2.2.2.2.2.2.2.2.2.2.2.2.2.2.2.2.2.1)
    have c10:wr.cell? ⟨g,22,none⟩=some (.int .i64 f1):=cell_next hbw G2.out (Q.out.2.2.2.2.2.2.2.2.2.2.2.2.2.2.2.2.2.2.2.2.2.2.1)
    have c11:wr.cell? ⟨g,23,none⟩=some (.int .i64 3):=cell_next hbw G2.out (Q.out.2.2.2.2.2.2.2.2.2.2.2.2.2.2.2.2.2.2.2.2.2.2.2.1)
    have gz:g<wr.heap.size:=Nat.lt_of_lt_of_le G2.out hbw.size
    have gn: ¬ g=w.heap.size+1:=by have:=G2.out;omega
    clear hr hp hbw
    have sw:=SW1.out
    have su:=SU1.out
    have se:=SE1.out
    cases W1 <;> cases U1 <;> cases E1
    all_goals
     simp only [Bool.true_and,Bool.false_and] at sw su se
     have SS:Hid (W2=_/\U2=_/\E2=_):=⟨sw,su,se⟩
     clear sw su se
     go_wp2_with fail
     go_roundw
     case rel=>rw [SS.out.1,SS.out.2.1,SS.out.2.2];exact Or.inr (Or.inr (Or.inl ⟨rfl,HCI.out.next _ _ _ _⟩))
     case measure=>simp [intOf]
  . have HCI:Hid (CI w wr W2 U2 E2):=hci
    obtain ⟨r0,r1,r2,hr,hp,hbw⟩:=hci
    have zp:w.heap.size+1<wr.heap.size:=(Array.getElem?_eq_some_iff.1 hp).1
    have p0:wr.cell? ⟨w.heap.size+1,0,none⟩=some (.bool W2):=Go.Joins.cell_of_block hp 0
    have p1:wr.cell? ⟨w.heap.size+1,1,none⟩=some (.bool U2):=Go.Joins.cell_of_block hp 1
    have p2:wr.cell? ⟨w.heap.size+1,2,none⟩=some (.bool E2):=Go.Joins.cell_of_block hp 2
    have z0:wr.frozen? ⟨w.heap.size+1,0,none⟩=false:=Go.Joins.unfrozen_of_block hp 0
    have z1:wr.frozen? ⟨w.heap.size+1,1,none⟩=false:=Go.Joins.unfrozen_of_block hp 1
    have z2:wr.frozen? ⟨w.heap.size+1,2,none⟩=false:=Go.Joins.unfrozen_of_block hp 2
    have c0:wr.cell? ⟨g,24,none⟩=some (.int .u64 A2):=cell_next hbw G2.out (Q.out.2.2.2.2.2.2.2.2.2.2.2.2.2.2.2.2.2.2.2.2.2.2.2.2.1)
    have c1:wr.cell? ⟨g,25,none⟩=some (.int .u64 X2):=cell_next hbw G2.out (Q.out.2.2.2.2.2.2.2.2.2.2.2.2.2.2.2.2.2.2.2.2.2.2.2.2.2.1)
    have c2:wr.cell? ⟨g,26,none⟩=some (.bool y20):=cell_next hbw G2.out (Q.out.2.2.2.2.2.2.2.2.2.2.2.2.2.2.2.2.2.2.2.2.2.2.2.2.2.2.1)
    have c3:wr.cell? ⟨g,27,none⟩=some (.bool y21):=cell_next hbw G2.out (Q.out.2.2.2.2.2.2.2.2.2.2.2.2.2.2.2.2.2.2.2.2.2.2.2.2.2.2.2.1)
    have c4:wr.cell? ⟨g,28,none⟩=some (.bool y22):=cell_next hbw G2.out (Q.out.2.2.2.2.2.2.2.2.2.2.2.2.2.2.2.2.2.2.2.2.2.2.2.2.2.2.2.2.1)
    have c5:wr.cell? ⟨g,29,none⟩=some (.bool y23):=cell_next hbw G2.out (Q.out.2.2.2.2.2.2.2.2.2.2.2.2.2.2.2.2.2.2.2.2.2.2.2.2.2.2.2.2.2.1)
    have c6:wr.cell? ⟨g,30,none⟩=some (.bool y24):=cell_next hbw G2.out (Q.out.2.2.2.2.2.2.2.2.2.2.2.2.2.2.2.2.2.2.2.2.2.2.2.2.2.2.2.2.2.2.1)
    have c7:wr.cell? ⟨g,31,none⟩=some (.bool false):=cell_next hbw G2.out (Q.out.2.2.2.2.2.2.2.2.2.2.2.2.2.2.2.2.2.2.2.2.2.2.2.2.2.2.2.2.2.2.2.1)
    have c8:wr.cell? ⟨g,32,none⟩=some (.bool y26):=cell_next hbw G2.out (Q.out.2.2.2.2.2.2.2.2.2.2.2.2.2.2.2.2.2.2.2.2.2.2.2.2.2.2.2.2.2.2.2.2.1)
    have c9:wr.cell? ⟨g,33,none⟩=some (.bool y27):=cell_next hbw G2.out (Q.out.2.2.2.2.2.2.2.2.2.2.2.2.2.2.2.2.2.2.2.2.2.2.2.2.2.2.2.2.2.2.2.2.2.1)
    have c10:wr.cell? ⟨g,34,none⟩=some (.int .i64 f2):=cell_next hbw G2.out (Q.out.2.2.2.2.2.2.2.2.2.2.2.2.2.2.2.2.2.2.2.2.2.2.2.2.2.2.2.2.2.2.2.2.2.2.1)
    have c11:wr.cell? ⟨g,35,none⟩=some (.int .i64 2):=cell_next hbw G2.out (Q.out.2.2.2.2.2.2.2.2.2.2.2.2.2.2.2.2.2.2.2.2.2.2.2.2.2.2.2.2.2.2.2.2.2.2.2.1)
    have gz:g<wr.heap.size:=Nat.lt_of_lt_of_le G2.out hbw.size
    have gn: ¬ g=w.heap.size+1:=by have:=G2.out;omega
    clear hr hp hbw
    have sw:=SW2.out
    have su:=SU2.out
    have se:=SE2.out
    cases W2 <;> cases U2 <;> cases E2
    all_goals
     simp only [Bool.true_and,Bool.false_and] at sw su se
     have SS:Hid (W3=_/\U3=_/\E3=_):=⟨sw,su,se⟩
     clear sw su se
     go_wp2_with fail
     go_roundw
     case rel=>rw [SS.out.1,SS.out.2.1,SS.out.2.2];exact Or.inr (Or.inr (Or.inr (Or.inl ⟨rfl,HCI.out.next _ _ _ _⟩)))
     case measure=>simp [intOf]
  . have HCI:Hid (CI w wr W3 U3 E3):=hci
    obtain ⟨r0,r1,r2,hr,hp,hbw⟩:=hci
    have zp:w.heap.size+1<wr.heap.size:=(Array.getElem?_eq_some_iff.1 hp).1
    have p0:wr.cell? ⟨w.heap.size+1,0,none⟩=some (.bool W3):=Go.Joins.cell_of_block hp 0
    have p1:wr.cell? ⟨w.heap.size+1,1,none⟩=some (.bool U3):=Go.Joins.cell_of_block hp 1
    have p2:wr.cell? ⟨w.heap.size+1,2,none⟩=some (.bool E3):=Go.Joins.cell_of_block hp 2
    have z0:wr.frozen? ⟨w.heap.size+1,0,none⟩=false:=Go.Joins.unfrozen_of_block hp 0
    have z1:wr.frozen? ⟨w.heap.size+1,1,none⟩=false:=Go.Joins.unfrozen_of_block hp 1
    have z2:wr.frozen? ⟨w.heap.size+1,2,none⟩=false:=Go.Joins.unfrozen_of_block hp 2
    have c0:wr.cell? ⟨g,36,none⟩=some (.int .u64 A3):=cell_next hbw G2.out (Q.out.2.2.2.2.2.2.2.2.2.2.2.2.2.2.2.2.2.2.2.2.2.2.2.2.2.2.2.2.2.2.2.2.2.2.2.2.1)
    have c1:wr.cell? ⟨g,37,none⟩=some (.int .u64 X3):=cell_next hbw G2.out (Q.out.2.2.2.2.2.2.2.2.2.2.2.2.2.2.2.2.2.2.2.2.2.2.2.2.2.2.2.2.2.2.2.2.2.2.2.2.2.1)
    have c2:wr.cell? ⟨g,38,none⟩=some (.bool y30):=cell_next hbw G2.out (Q.out.2.2.2.2.2.2.2.2.2.2.2.2.2.2.2.2.2.2.2.2.2.2.2.2.2.2.2.2.2.2.2.2.2.2.2.2.2.2.1)
    have c3:wr.cell? ⟨g,39,none⟩=some (.bool y31):=cell_next hbw G2.out (Q.out.2.2.2.2.2.2.2.2.2.2.2.2.2.2.2.2.2.2.2.2.2.2.2.2.2.2.2.2.2.2.2.2.2.2.2.2.2.2.2.1)
    have c4:wr.cell? ⟨g,40,none⟩=some (.bool y32):=cell_next hbw G2.out (Q.out.2.2.2.2.2.2.2.2.2.2.2.2.2.2.2.2.2.2.2.2.2.2.2.2.2.2.2.2.2.2.2.2.2.2.2.2.2.2.2.2.1)
    have c5:wr.cell? ⟨g,41,none⟩=some (.bool y33):=cell_next hbw G2.out (Q.out.2.2.2.2.2.2.2.2.2.2.2.2.2.2.2.2.2.2.2.2.2.2.2.2.2.2.2.2.2.2.2.2.2.2.2.2.2.2.2.2.2.1)
    have c6:wr.cell? ⟨g,42,none⟩=some (.bool y34):=cell_next hbw G2.out (Q.out.2.2.2.2.2.2.2.2.2.2.2.2.2.2.2.2.2.2.2.2.2.2.2.2.2.2.2.2.2.2.2.2.2.2.2.2.2.2.2.2.2.2.1)
    have c7:wr.cell? ⟨g,43,none⟩=some (.bool y35):=cell_next hbw G2.out (Q.out.2.2.2.2.2.2.2.2.2.2.2.2.2.2.2.2.2.2.2.2.2.2.2.2.2.2.2.2.2.2.2.2.2.2.2.2.2.2.2.2.2.2.2.1)
    have c8:wr.cell? ⟨g,44,none⟩=some (.bool y36):=cell_next hbw G2.out (Q.out.2.2.2.2.2.2.2.2.2.2.2.2.2.2.2.2.2.2.2.2.2.2.2.2.2.2.2.2.2.2.2.2.2.2.2.2.2.2.2.2.2.2.2.2.1)
    have c9:wr.cell? ⟨g,45,none⟩=some (.bool y37):=cell_next hbw G2.out (Q.out.2.2.2.2.2.2.2.2.2.2.2.2.2.2.2.2.2.2.2.2.2.2.2.2.2.2.2.2.2.2.2.2.2.2.2.2.2.2.2.2.2.2.2.2.2.1)
    have c10:wr.cell? ⟨g,46,none⟩=some (.int .i64 f3):=cell_next hbw G2.out (Q.out.2.2.2.2.2.2.2.2.2.2.2.2.2.2.2.2.2.2.2.2.2.2.2.2.2.2.2.2.2.2.2.2.2.2.2.2.2.2.2.2.2.2.2.2.2.2.1)
    have c11:wr.cell? ⟨g,47,none⟩=some (.int .i64 1):=cell_next hbw G2.out (Q.out.2.2.2.2.2.2.2.2.2.2.2.2.2.2.2.2.2.2.2.2.2.2.2.2.2.2.2.2.2.2.2.2.2.2.2.2.2.2.2.2.2.2.2.2.2.2.2)
    have gz:g<wr.heap.size:=Nat.lt_of_lt_of_le G2.out hbw.size
    have gn: ¬ g=w.heap.size+1:=by have:=G2.out;omega
    clear hr hp hbw
    have sw:=SW3.out
    have su:=SU3.out
    have se:=SE3.out
    cases W3 <;> cases U3 <;> cases E3
    all_goals
     simp only [Bool.true_and,Bool.false_and] at sw su se
     have SS:Hid (W4=_/\U4=_/\E4=_):=⟨sw,su,se⟩
     clear sw su se
     go_wp2_with fail
     go_roundw
     case rel=>rw [SS.out.1,SS.out.2.1,SS.out.2.2];exact Or.inr (Or.inr (Or.inr (Or.inr (⟨rfl,HCI.out.next _ _ _ _⟩))))
     case measure=>simp [intOf]
  . have HCI:Hid (CI w wr W4 U4 E4):=hci
    obtain ⟨r0,r1,r2,hr,hp,hbw⟩:=hci
    have zp:w.heap.size+1<wr.heap.size:=(Array.getElem?_eq_some_iff.1 hp).1
    have p0:wr.cell? ⟨w.heap.size+1,0,none⟩=some (.bool W4):=Go.Joins.cell_of_block hp 0
    have p1:wr.cell? ⟨w.heap.size+1,1,none⟩=some (.bool U4):=Go.Joins.cell_of_block hp 1
    have p2:wr.cell? ⟨w.heap.size+1,2,none⟩=some (.bool E4):=Go.Joins.cell_of_block hp 2
    have z0:wr.frozen? ⟨w.heap.size+1,0,none⟩=false:=Go.Joins.unfrozen_of_block hp 0
    have z1:wr.frozen? ⟨w.heap.size+1,1,none⟩=false:=Go.Joins.unfrozen_of_block hp 1
    have z2:wr.frozen? ⟨w.heap.size+1,2,none⟩=false:=Go.Joins.unfrozen_of_block hp 2
    have y0:wr.cell? ⟨w.heap.size,0,none⟩=some r0:=Go.Joins.cell_of_block hr 0
    have y1:wr.cell? ⟨w.heap.size,1,none⟩=some r1:=Go.Joins.cell_of_block hr 1
    have y2:wr.cell? ⟨w.heap.size,2,none⟩=some r2:=Go.Joins.cell_of_block hr 2
    have x0:wr.frozen? ⟨w.heap.size,0,none⟩=false:=Go.Joins.unfrozen_of_block hr 0
    have x1:wr.frozen? ⟨w.heap.size,1,none⟩=false:=Go.Joins.unfrozen_of_block hr 1
    have x2:wr.frozen? ⟨w.heap.size,2,none⟩=false:=Go.Joins.unfrozen_of_block hr 2
    have HB:Hid (Below w.heap.size w wr):=hbw
    have HR:Hid (wr.heap[w.heap.size]? =some (.cells #[r0,r1,r2] 40 (0,0))):=hr
    clear hr hp hbw
    go_wp2_with fail
    refine bodyPost_ret (v:=.agg #[.bool W4,.bool U4,.bool E4]) ?_ rfl ?_
    . rw [results_cell1 Tryd.results52]
      exact run_loadVar_row _ w.heap.size 40 40 #[.bool W4,.bool U4,.bool E4] (0,0) _ (Go.Joins.block_setCell (i:=2) (Go.Joins.block_setCell (i:=1) (Go.Joins.block_setCell (i:=0) HR.out (.bool W4)) (.bool U4)) (.bool E4)) Tryd.underlying40 rfl perm_info
    . exact ⟨rfl,((HB.out.setCell (Nat.le_refl _) _).setCell (Nat.le_refl _) _).setCell (Nat.le_refl _) _⟩
end Go.Proofs.YtkiclbnbnjbcaaaDoor
