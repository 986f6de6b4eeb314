import Derived.Test.YtokpmclmdobgeaaGreatChecked
import Derived.WalkKit
import Derived.ProofKit
import Derived.OpenShut
import Derived.Carry
import Derived.Lib.SmallJoins
import Derived.Deep.Light
import Derived.Deep.MidRow
import Derived.Deep.RegionHeld3
import Derived.Deep.DrawnRows
import Derived.Handy
import Derived.Laws.MakeOwn
import Derived.MapKept
import Derived.Laws.Tables
import Derived.Laws.CopyRow
import Derived.BigQuiet
import Derived.Deep.QuietTactic
import Derived.ChangeKeysEq
import Derived.Laws.StructEq
import Derived.Deep.DeepCutAuto
import Derived.Deep.CutBlock
import Derived.Test.YtokpmclmdobgeaaGreatDoe
set_option linter.unusedSimpArgs false
set_option linter.unusedVariables false
set_option maxRecDepth 8000
set_option maxHeartbeats 8000000
open Go.ChangeShapes Go.WideShapes Go.ChangeAt Go.RowKit Go.Maps
namespace Go.Proofs.YtokpmclmdobgeaaGreat.Tr
theorem below_new {w w':World} (h:bc w w') (o:Obj):bc w (w'.alloc o):=h.alloc h.size o
theorem below_drew {n:Nat} {w W:World} (h:Below n w W):Below n w W.drew:=⟨h.os,h.tape,h.output,h.size,h.block⟩
theorem own1 (w:World) (o:Obj):(w.alloc o).heap[w.heap.size]? =some o:=(MapKept.heap_alloc w o).1
theorem blk_lt {w:World} {b:Nat} {o:Obj} (h:w.heap[b]? =some o):b<w.heap.size:=(Array.getElem?_eq_some_iff.1 h).1
structure Kb (x:Nat) (w w':World):Prop where
 os:w'.os=w.os
 tape:w'.tape=w.tape
 output:w'.output=w.output
 size:w.heap.size<=w'.heap.size
 block: ∀ k,k<w.heap.size->k≠x->w'.heap[k]? =w.heap[k]?
abbrev Blk (w:World) (b:Nat) (C:List Value) (t:TypeId):Prop:=w.heap[b]? =some (.cells C.toArray t (0,0))
theorem Blk.cell {w:World} {b:Nat} {C:List Value} {t:TypeId} (h:Blk w b C t) (i:Nat):w.cell? ⟨b,i,none⟩=C[i]? :=by rw [Go.Joins.cell_of_block h i];simp
theorem Blk.below {w w':World} {b:Nat} {C:List Value} {t:TypeId} (h:Blk w b C t) (k:bc w w'):Blk w' b C t:=(k.block b (blk_lt h)).trans h
theorem Blk.made (w:World) (C:List Value) (t:TypeId):Blk (w.alloc (.cells C.toArray t)) w.heap.size C t:=own1 w _
theorem store_pat {P:Program} {ops:Array Oper} {rest:List Oper} {ty t:TypeId} {x y:Operand} {pos:String} {af:Array Edge} {a:Act} {w:World} {Q:Exit->Act->World->Prop} (b o:Nat) (cells:Array Value) (hx:a.eval x=.pointer (some ⟨b,o,none⟩)) (hy:a.eval y=.agg cells)
 (ht:w.there b o cells.size) (hi:(P.info? ty).map (·.size)=some cells.size) (h1:cells.all (·.oneCell')=true)
 (h:wpList P ops Q rest a (w.setCells b o cells.toList)):wpList P ops Q ({ dst:=none,op:=.store ty x y,type:=t,pos:=pos,after:=af,guard:=none }::rest) a w :=
 wpList_store_mid rfl ty x y rfl b o cells hx hy ht hi h1 h
theorem load_pat {P:Program} {ops:Array Oper} {rest:List Oper} {ty t:TypeId} {x:Operand} {q:Tmp} {pos:String} {af:Array Edge} {a:Act} {w:World} {Q:Exit->Act->World->Prop} (b o:Nat) (cs:List Value) (d:TypeDesc) (hx:a.eval x=.pointer (some ⟨b,o,none⟩)) (hc:w.rangeAt b o cs)
 (hu:P.underlying ty=some d) (hd:d.isRow=true) (hi:(P.info? ty).map (·.size)=some cs.length)
 (h:wpList P ops Q rest (a.put (some q) (.agg cs.toArray)) w):wpList P ops Q ({ dst:=some q,op:=.load ty x,type:=t,pos:=pos,after:=af,guard:=none }::rest) a w :=
 wpList_load_mid rfl ty x rfl b o hx cs d hc hu hd hi h
structure St where
 r0:Int
 r1:Int
 r2:Int
 r3:Int
 told:Int
 en:Int
 inn:Bool
 fa:Int
 fc:Int
 s0:Int
 s1:Int
 s2:Int
 s3:Int
deriving DecidableEq
abbrev St.val (s:St):Value:=.agg (sc1 s.r0 s.r1 s.r2 s.r3 s.told s.en s.inn s.fa s.fc s.s0 s.s1 s.s2 s.s3)
def St.zero:St:=⟨0,0,0,0,0,0,false,0,0,0,0,0,0⟩
theorem raise_none (r0 r1 r2 r3 t:Int) (i:Bool) (a c s0 s1 s2 s3:Int) (fa fc:Int) (w:World):Calls Tryz.prog 71 #[(St.mk r0 r1 r2 r3 t 0 i a c s0 s1 s2 s3).val,.agg #[.int .u64 fa,.int .i64 fc]] w (re (.tuple #[(St.mk r0 r1 r2 r3 t 0 i a c s0 s1 s2 s3).val,.int .i64 5]) w):=by
 go_enter Tryz.func71,Tryz.ntmps71
 go_wp2_with fail
 all_goals go_returns
 all_goals exact ⟨rfl,by repeat (first | exact Below.refl _ _ | refine below_new ?_ _ | refine below_drew ?_)⟩
theorem raise_busy (r0 r1 r2 r3 t en:Int) (a c s0 s1 s2 s3:Int) (fa fc:Int) (h:en≠0) (w:World):Calls Tryz.prog 71 #[(St.mk r0 r1 r2 r3 t en true a c s0 s1 s2 s3).val,.agg #[.int .u64 fa,.int .i64 fc]] w (re (.tuple #[(St.mk r0 r1 r2 r3 t en true a c s0 s1 s2 s3).val,.int .i64 11]) w):=by
 have e0:(en==0)=false:=by simpa using h
 go_enter Tryz.func71,Tryz.ntmps71
 go_wp2_with fail
 all_goals go_returns
 all_goals exact ⟨rfl,by repeat (first | exact Below.refl _ _ | refine below_new ?_ _ | refine below_drew ?_)⟩
theorem raise_ok (r0 r1 r2 r3 t en:Int) (a c s0 s1 s2 s3:Int) (fa fc cc:Int) (h:en≠0) (hc:IntKind.u64.wrap fc=cc) (w:World):Calls Tryz.prog 71 #[(St.mk r0 r1 r2 r3 t en false a c s0 s1 s2 s3).val,.agg #[.int .u64 fa,.int .i64 fc]] w (re (.tuple #[(St.mk fa cc 0 0 t en true fa fc r0 r1 r2 r3).val,.int .i64 0]) w):=by
 have e0:(en==0)=false:=by simpa using h
 go_enter Tryz.func71,Tryz.ntmps71
 go_wp2_with fail
 go_region
 all_goals go_wp2_with fail
 all_goals go_returns
 all_goals exact ⟨rfl,by repeat (first | exact Below.refl _ _ | refine below_new ?_ _ | refine below_drew ?_)⟩
theorem return_none (r0 r1 r2 r3 t en:Int) (a c s0 s1 s2 s3:Int) (w:World):Calls Tryz.prog 91 #[(St.mk r0 r1 r2 r3 t en false a c s0 s1 s2 s3).val] w (re (.tuple #[(St.mk r0 r1 r2 r3 t en false a c s0 s1 s2 s3).val,.int .i64 5]) w):=by
 go_enter Tryz.func91,Tryz.ntmps91
 go_wp2_with fail
 all_goals go_returns
 all_goals exact ⟨rfl,by repeat (first | exact Below.refl _ _ | refine below_new ?_ _ | refine below_drew ?_)⟩
theorem return_ok (r0 r1 r2 r3 t en:Int) (a c s0 s1 s2 s3:Int) (w:World):Calls Tryz.prog 91 #[(St.mk r0 r1 r2 r3 t en true a c s0 s1 s2 s3).val] w (re (.tuple #[(St.mk s0 s1 s2 s3 t en false 0 0 0 0 0 0).val,.int .i64 0]) w):=by
 go_enter Tryz.func91,Tryz.ntmps91
 go_wp2_with fail
 all_goals go_returns
 all_goals exact ⟨rfl,by repeat (first | exact Below.refl _ _ | refine below_new ?_ _ | refine below_drew ?_)⟩
theorem handle_busy (r0 r1 r2 r3 t en:Int) (a c s0 s1 s2 s3:Int) (x:Int) (w:World):Calls Tryz.prog 90 #[(St.mk r0 r1 r2 r3 t en true a c s0 s1 s2 s3).val,.int .u64 x] w (re (.tuple #[(St.mk r0 r1 r2 r3 t en true a c s0 s1 s2 s3).val,.int .i64 11]) w):=by
 go_enter Tryz.func90,Tryz.ntmps90
 go_wp2_with fail
 all_goals go_returns
 all_goals exact ⟨rfl,by repeat (first | exact Below.refl _ _ | refine below_new ?_ _ | refine below_drew ?_)⟩
theorem handle_ok (r0 r1 r2 r3 t en:Int) (a c s0 s1 s2 s3:Int) (x:Int) (w:World):Calls Tryz.prog 90 #[(St.mk r0 r1 r2 r3 t en false a c s0 s1 s2 s3).val,.int .u64 x] w (re (.tuple #[(St.mk r0 r1 r2 r3 t x false a c s0 s1 s2 s3).val,.int .i64 0]) w):=by
 go_enter Tryz.func90,Tryz.ntmps90
 go_wp2_with fail
 all_goals go_returns
 all_goals exact ⟨rfl,by repeat (first | exact Below.refl _ _ | refine below_new ?_ _ | refine below_drew ?_)⟩
theorem regs1_y (x:Int) (hx:0<=x/\x<4) (b:Nat) (w:World) (c0:w.cell? ⟨b,0,none⟩=some (.int .i64 x)):Calls Tryz.prog 108 #[.slice (some ⟨b,0,none⟩) 1 1] w fun e w'=>e=.returned (.bool true)/\w'=w:=by
 have xa:decide (x<0)=false:=kg
 have xb:decide (4<=x)=false:=kg
 go_enter Tryz.func108,Tryz.ntmps108
 go_wp2_with fail
 refine wp_loop_rounds 3 ?_
 rw [rounds_succ]
 go_wp2_with fail
 rw [rounds_succ]
 go_wp2_with fail
 go_ret
 exact ⟨rfl,rfl⟩
theorem regs1_n (x:Int) (hx:x<0) (b:Nat) (w:World) (c0:w.cell? ⟨b,0,none⟩=some (.int .i64 x)):Calls Tryz.prog 108 #[.slice (some ⟨b,0,none⟩) 1 1] w fun e w'=>e=.returned (.bool false)/\w'=w:=by
 have xa:decide (x<0)=true:=kg
 go_enter Tryz.func108,Tryz.ntmps108
 go_wp2_with fail
 refine wp_loop_rounds 3 ?_
 rw [rounds_succ]
 go_wp2_with fail
 go_ret
 exact ⟨rfl,rfl⟩
theorem regs1_g (x:Int) (hx:4<=x) (b:Nat) (w:World) (c0:w.cell? ⟨b,0,none⟩=some (.int .i64 x)):Calls Tryz.prog 108 #[.slice (some ⟨b,0,none⟩) 1 1] w fun e w'=>e=.returned (.bool false)/\w'=w:=by
 have xa:decide (x<0)=false:=kg
 have xb:decide (4<=x)=true:=kg
 go_enter Tryz.func108,Tryz.ntmps108
 go_wp2_with fail
 refine wp_loop_rounds 3 ?_
 rw [rounds_succ]
 go_wp2_with fail
 go_ret
 exact ⟨rfl,rfl⟩
theorem regs3_yyy (x y z:Int) (hx:0<=x/\x<4) (hy:0<=y/\y<4) (hz:0<=z/\z<4) (b:Nat) (w:World) (c0:w.cell? ⟨b,0,none⟩=some (.int .i64 x)) (c1:w.cell? ⟨b,1,none⟩=some (.int .i64 y)) (c2:w.cell? ⟨b,2,none⟩=some (.int .i64 z)):Calls Tryz.prog 108 #[.slice (some ⟨b,0,none⟩) 3 3] w fun e w'=>e=.returned (.bool true)/\w'=w:=by
 have xa:decide (x<0)=false:=kg
 have xb:decide (4<=x)=false:=kg
 have ya:decide (y<0)=false:=kg
 have yb:decide (4<=y)=false:=kg
 have za:decide (z<0)=false:=kg
 have zb:decide (4<=z)=false:=kg
 go_enter Tryz.func108,Tryz.ntmps108
 go_wp2_with fail
 refine wp_loop_rounds 5 ?_
 rw [rounds_succ]
 go_wp2_with fail
 rw [rounds_succ]
 go_wp2_with fail
 rw [rounds_succ]
 go_wp2_with fail
 rw [rounds_succ]
 go_wp2_with fail
 go_ret
 exact ⟨rfl,rfl⟩
theorem regs3_n (x y z:Int) (hx:x<0) (b:Nat) (w:World) (c0:w.cell? ⟨b,0,none⟩=some (.int .i64 x)) (c1:w.cell? ⟨b,1,none⟩=some (.int .i64 y)) (c2:w.cell? ⟨b,2,none⟩=some (.int .i64 z)):Calls Tryz.prog 108 #[.slice (some ⟨b,0,none⟩) 3 3] w fun e w'=>e=.returned (.bool false)/\w'=w:=by
 have xa:decide (x<0)=true:=kg
 go_enter Tryz.func108,Tryz.ntmps108
 go_wp2_with fail
 refine wp_loop_rounds 5 ?_
 rw [rounds_succ]
 go_wp2_with fail
 go_ret
 exact ⟨rfl,rfl⟩
theorem regs3_g (x y z:Int) (hx:4<=x) (b:Nat) (w:World) (c0:w.cell? ⟨b,0,none⟩=some (.int .i64 x)) (c1:w.cell? ⟨b,1,none⟩=some (.int .i64 y)) (c2:w.cell? ⟨b,2,none⟩=some (.int .i64 z)):Calls Tryz.prog 108 #[.slice (some ⟨b,0,none⟩) 3 3] w fun e w'=>e=.returned (.bool false)/\w'=w:=by
 have xa:decide (x<0)=false:=kg
 have xb:decide (4<=x)=true:=kg
 go_enter Tryz.func108,Tryz.ntmps108
 go_wp2_with fail
 refine wp_loop_rounds 5 ?_
 rw [rounds_succ]
 go_wp2_with fail
 go_ret
 exact ⟨rfl,rfl⟩
theorem regs3_yn (x y z:Int) (hx:0<=x/\x<4) (hy:y<0) (b:Nat) (w:World) (c0:w.cell? ⟨b,0,none⟩=some (.int .i64 x)) (c1:w.cell? ⟨b,1,none⟩=some (.int .i64 y)) (c2:w.cell? ⟨b,2,none⟩=some (.int .i64 z)):Calls Tryz.prog 108 #[.slice (some ⟨b,0,none⟩) 3 3] w fun e w'=>e=.returned (.bool false)/\w'=w:=by
 have xa:decide (x<0)=false:=kg
 have xb:decide (4<=x)=false:=kg
 have ya:decide (y<0)=true:=kg
 go_enter Tryz.func108,Tryz.ntmps108
 go_wp2_with fail
 refine wp_loop_rounds 5 ?_
 rw [rounds_succ]
 go_wp2_with fail
 rw [rounds_succ]
 go_wp2_with fail
 go_ret
 exact ⟨rfl,rfl⟩
theorem regs3_yg (x y z:Int) (hx:0<=x/\x<4) (hy:4<=y) (b:Nat) (w:World) (c0:w.cell? ⟨b,0,none⟩=some (.int .i64 x)) (c1:w.cell? ⟨b,1,none⟩=some (.int .i64 y)) (c2:w.cell? ⟨b,2,none⟩=some (.int .i64 z)):Calls Tryz.prog 108 #[.slice (some ⟨b,0,none⟩) 3 3] w fun e w'=>e=.returned (.bool false)/\w'=w:=by
 have xa:decide (x<0)=false:=kg
 have xb:decide (4<=x)=false:=kg
 have ya:decide (y<0)=false:=kg
 have yb:decide (4<=y)=true:=kg
 go_enter Tryz.func108,Tryz.ntmps108
 go_wp2_with fail
 refine wp_loop_rounds 5 ?_
 rw [rounds_succ]
 go_wp2_with fail
 rw [rounds_succ]
 go_wp2_with fail
 go_ret
 exact ⟨rfl,rfl⟩
theorem regs3_yyn (x y z:Int) (hx:0<=x/\x<4) (hy:0<=y/\y<4) (hz:z<0) (b:Nat) (w:World) (c0:w.cell? ⟨b,0,none⟩=some (.int .i64 x)) (c1:w.cell? ⟨b,1,none⟩=some (.int .i64 y)) (c2:w.cell? ⟨b,2,none⟩=some (.int .i64 z)):Calls Tryz.prog 108 #[.slice (some ⟨b,0,none⟩) 3 3] w fun e w'=>e=.returned (.bool false)/\w'=w:=by
 have xa:decide (x<0)=false:=kg
 have xb:decide (4<=x)=false:=kg
 have ya:decide (y<0)=false:=kg
 have yb:decide (4<=y)=false:=kg
 have za:decide (z<0)=true:=kg
 go_enter Tryz.func108,Tryz.ntmps108
 go_wp2_with fail
 refine wp_loop_rounds 5 ?_
 rw [rounds_succ]
 go_wp2_with fail
 rw [rounds_succ]
 go_wp2_with fail
 rw [rounds_succ]
 go_wp2_with fail
 go_ret
 exact ⟨rfl,rfl⟩
theorem regs3_yyg (x y z:Int) (hx:0<=x/\x<4) (hy:0<=y/\y<4) (hz:4<=z) (b:Nat) (w:World) (c0:w.cell? ⟨b,0,none⟩=some (.int .i64 x)) (c1:w.cell? ⟨b,1,none⟩=some (.int .i64 y)) (c2:w.cell? ⟨b,2,none⟩=some (.int .i64 z)):Calls Tryz.prog 108 #[.slice (some ⟨b,0,none⟩) 3 3] w fun e w'=>e=.returned (.bool false)/\w'=w:=by
 have xa:decide (x<0)=false:=kg
 have xb:decide (4<=x)=false:=kg
 have ya:decide (y<0)=false:=kg
 have yb:decide (4<=y)=false:=kg
 have za:decide (z<0)=false:=kg
 have zb:decide (4<=z)=true:=kg
 go_enter Tryz.func108,Tryz.ntmps108
 go_wp2_with fail
 refine wp_loop_rounds 5 ?_
 rw [rounds_succ]
 go_wp2_with fail
 rw [rounds_succ]
 go_wp2_with fail
 rw [rounds_succ]
 go_wp2_with fail
 go_ret
 exact ⟨rfl,rfl⟩
theorem regs1 (x:Int) (b:Nat) (w:World) (c0:w.cell? ⟨b,0,none⟩=some (.int .i64 x)):Calls Tryz.prog 108 #[.slice (some ⟨b,0,none⟩) 1 1] w fun e w'=>e=.returned (.bool (decide (0<=x/\x<4)))/\w'=w:=by
 by_cases h:x<0
 . rw [decide_eq_false (by omega)];exact regs1_n x h b w c0
 by_cases h2:4<=x
 . rw [decide_eq_false (by omega)];exact regs1_g x h2 b w c0
 rw [decide_eq_true (by omega)];exact regs1_y x (by omega) b w c0
theorem regs3 (x y z:Int) (b:Nat) (w:World) (c0:w.cell? ⟨b,0,none⟩=some (.int .i64 x)) (c1:w.cell? ⟨b,1,none⟩=some (.int .i64 y)) (c2:w.cell? ⟨b,2,none⟩=some (.int .i64 z)):Calls Tryz.prog 108 #[.slice (some ⟨b,0,none⟩) 3 3] w fun e w'=>e=.returned (.bool (decide ((0<=x/\x<4)/\(0<=y/\y<4)/\(0<=z/\z<4))))/\w'=w:=by
 by_cases h:x<0
 . rw [decide_eq_false (by omega)];exact regs3_n x y z h b w c0 c1 c2
 by_cases h2:4<=x
 . rw [decide_eq_false (by omega)];exact regs3_g x y z h2 b w c0 c1 c2
 by_cases h3:y<0
 . rw [decide_eq_false (by omega)];exact regs3_yn x y z (by omega) h3 b w c0 c1 c2
 by_cases h4:4<=y
 . rw [decide_eq_false (by omega)];exact regs3_yg x y z (by omega) h4 b w c0 c1 c2
 by_cases h5:z<0
 . rw [decide_eq_false (by omega)];exact regs3_yyn x y z (by omega) (by omega) h5 b w c0 c1 c2
 by_cases h6:4<=z
 . rw [decide_eq_false (by omega)];exact regs3_yyg x y z (by omega) (by omega) h6 b w c0 c1 c2
 rw [decide_eq_true (by omega)];exact regs3_yyy x y z (by omega) (by omega) (by omega) b w c0 c1 c2
theorem new3 (w:World) (A B:Obj) (cs:Array Value) (t:TypeId) (i:Nat):(((w.alloc A).alloc B).alloc (.cells cs t)).cell? ⟨w.heap.size+1+1,i,none⟩=cs[i]? :=by
 have h:=Go.Joins.cell_of_block (own1 ((w.alloc A).alloc B) (.cells cs t)) i
 rw [World.size_alloc,World.size_alloc] at h
 exact h
theorem move_no (r0 r1 r2 r3 t en:Int) (i:Bool) (a c s0 s1 s2 s3:Int) (at':Int) (h: ¬ (0<=at'/\at'<4)) (x:Int) (w:World):Calls Tryz.prog 93 #[(St.mk r0 r1 r2 r3 t en i a c s0 s1 s2 s3).val,.int .i64 at',.int .u64 x] w (re (.tuple #[(St.mk r0 r1 r2 r3 t en i a c s0 s1 s2 s3).val,.int .i64 1]) w):=by
 have C:Hid (∀ (b:Nat) (w:World),w.cell? ⟨b,0,none⟩=some (.int .i64 at')->Calls Tryz.prog 108 #[.slice (some ⟨b,0,none⟩) 1 1] w fun e w'=>e=.returned (.bool false)/\w'=w):=fun b w k=>by
  have h:=regs1 at' b w k
  rw [show decide (0<=(at':Int)/\(at':Int)<4)=false by simp;omega] at h
  exact h
 go_enter Tryz.func93,Tryz.ntmps93
 go_wp2_with fail
 refine (C.out _ _ ?c).mono ?_
 case c=>exact new3 _ _ _ _ _ _
 rintro e u ⟨rfl,hu⟩
 subst hu
 go_wp2_with fail
 go_returns
 exact ⟨rfl,by repeat (first | exact Below.refl _ _ | refine below_new ?_ _ | refine below_drew ?_)⟩
theorem move_0 (r0 r1 r2 r3 t en:Int) (i:Bool) (a c s0 s1 s2 s3:Int) (x:Int) (w:World):Calls Tryz.prog 93 #[(St.mk r0 r1 r2 r3 t en i a c s0 s1 s2 s3).val,.int .i64 0,.int .u64 x] w (re (.tuple #[(St.mk x r1 r2 r3 t en i a c s0 s1 s2 s3).val,.int .i64 0]) w):=by
 have C:Hid (∀ (b:Nat) (w:World),w.cell? ⟨b,0,none⟩=some (.int .i64 0)->Calls Tryz.prog 108 #[.slice (some ⟨b,0,none⟩) 1 1] w fun e w'=>e=.returned (.bool true)/\w'=w):=fun b w k=>by
  have h:=regs1 0 b w k
  rw [show decide (0<=(0:Int)/\(0:Int)<4)=true by simp] at h
  exact h
 go_enter Tryz.func93,Tryz.ntmps93
 go_wp2_with fail
 refine (C.out _ _ ?c).mono ?_
 case c=>exact new3 _ _ _ _ _ _
 rintro e u ⟨rfl,hu⟩
 subst hu
 go_wp2_with fail
 go_returns
 exact ⟨rfl,by repeat (first | exact Below.refl _ _ | refine below_new ?_ _ | refine below_drew ?_)⟩
theorem move_1 (r0 r1 r2 r3 t en:Int) (i:Bool) (a c s0 s1 s2 s3:Int) (x:Int) (w:World):Calls Tryz.prog 93 #[(St.mk r0 r1 r2 r3 t en i a c s0 s1 s2 s3).val,.int .i64 1,.int .u64 x] w (re (.tuple #[(St.mk r0 x r2 r3 t en i a c s0 s1 s2 s3).val,.int .i64 0]) w):=by
 have C:Hid (∀ (b:Nat) (w:World),w.cell? ⟨b,0,none⟩=some (.int .i64 1)->Calls Tryz.prog 108 #[.slice (some ⟨b,0,none⟩) 1 1] w fun e w'=>e=.returned (.bool true)/\w'=w):=fun b w k=>by
  have h:=regs1 1 b w k
  rw [show decide (0<=(1:Int)/\(1:Int)<4)=true by simp] at h
  exact h
 go_enter Tryz.func93,Tryz.ntmps93
 go_wp2_with fail
 refine (C.out _ _ ?c).mono ?_
 case c=>exact new3 _ _ _ _ _ _
 rintro e u ⟨rfl,hu⟩
 subst hu
 go_wp2_with fail
 go_returns
 exact ⟨rfl,by repeat (first | exact Below.refl _ _ | refine below_new ?_ _ | refine below_drew ?_)⟩
theorem move_2 (r0 r1 r2 r3 t en:Int) (i:Bool) (a c s0 s1 s2 s3:Int) (x:Int) (w:World):Calls Tryz.prog 93 #[(St.mk r0 r1 r2 r3 t en i a c s0 s1 s2 s3).val,.int .i64 2,.int .u64 x] w (re (.tuple #[(St.mk r0 r1 x r3 t en i a c s0 s1 s2 s3).val,.int .i64 0]) w):=by
 have C:Hid (∀ (b:Nat) (w:World),w.cell? ⟨b,0,none⟩=some (.int .i64 2)->Calls Tryz.prog 108 #[.slice (some ⟨b,0,none⟩) 1 1] w fun e w'=>e=.returned (.bool true)/\w'=w):=fun b w k=>by
  have h:=regs1 2 b w k
  rw [show decide (0<=(2:Int)/\(2:Int)<4)=true by simp] at h
  exact h
 go_enter Tryz.func93,Tryz.ntmps93
 go_wp2_with fail
 refine (C.out _ _ ?c).mono ?_
 case c=>exact new3 _ _ _ _ _ _
 rintro e u ⟨rfl,hu⟩
 subst hu
 go_wp2_with fail
 go_returns
 exact ⟨rfl,by repeat (first | exact Below.refl _ _ | refine below_new ?_ _ | refine below_drew ?_)⟩
theorem move_3 (r0 r1 r2 r3 t en:Int) (i:Bool) (a c s0 s1 s2 s3:Int) (x:Int) (w:World):Calls Tryz.prog 93 #[(St.mk r0 r1 r2 r3 t en i a c s0 s1 s2 s3).val,.int .i64 3,.int .u64 x] w (re (.tuple #[(St.mk r0 r1 r2 x t en i a c s0 s1 s2 s3).val,.int .i64 0]) w):=by
 have C:Hid (∀ (b:Nat) (w:World),w.cell? ⟨b,0,none⟩=some (.int .i64 3)->Calls Tryz.prog 108 #[.slice (some ⟨b,0,none⟩) 1 1] w fun e w'=>e=.returned (.bool true)/\w'=w):=fun b w k=>by
  have h:=regs1 3 b w k
  rw [show decide (0<=(3:Int)/\(3:Int)<4)=true by simp] at h
  exact h
 go_enter Tryz.func93,Tryz.ntmps93
 go_wp2_with fail
 refine (C.out _ _ ?c).mono ?_
 case c=>exact new3 _ _ _ _ _ _
 rintro e u ⟨rfl,hu⟩
 subst hu
 go_wp2_with fail
 go_returns
 exact ⟨rfl,by repeat (first | exact Below.refl _ _ | refine below_new ?_ _ | refine below_drew ?_)⟩
theorem drewN_alloc3 (w:World) (A B C:Obj) (n:Nat):(((w.alloc A).alloc B).alloc C).drewN n=(((w.drewN n).alloc A).alloc B).alloc C:=rfl
theorem reckon_no (r0 r1 r2 r3 t en:Int) (i:Bool) (a c s0 s1 s2 s3:Int) (op x y z:Int) (h: ¬ ((0<=x/\x<4)/\(0<=y/\y<4)/\(0<=z/\z<4))) (w:World):Calls Tryz.prog 92 #[(St.mk r0 r1 r2 r3 t en i a c s0 s1 s2 s3).val,.int .i64 op,.int .i64 x,.int .i64 y,.int .i64 z] w (re (.tuple #[(St.mk r0 r1 r2 r3 t en i a c s0 s1 s2 s3).val,.int .i64 1]) w):=by
 have C:Hid (∀ (b:Nat) (w:World),w.cell? ⟨b,0,none⟩=some (.int .i64 x)->w.cell? ⟨b,1,none⟩=some (.int .i64 y)->w.cell? ⟨b,2,none⟩=some (.int .i64 z)->Calls Tryz.prog 108 #[.slice (some ⟨b,0,none⟩) 3 3] w fun e w'=>e=.returned (.bool false)/\w'=w):=fun b w k0 k1 k2=>by
  have q:=regs3 x y z b w k0 k1 k2
  rw [decide_eq_false h] at q
  exact q
 go_enter Tryz.func92,Tryz.ntmps92
 go_wp2_with fail
 refine (C.out _ _ ?c ?d ?f).mono ?_
 case c=>exact new3 _ _ _ _ _ _
 case d=>exact new3 _ _ _ _ _ _
 case f=>exact new3 _ _ _ _ _ _
 rintro e u ⟨rfl,hu⟩
 subst hu
 go_wp2_with fail
 go_returns
 exact ⟨rfl,by repeat (first | exact Below.refl _ _ | refine below_new ?_ _ | refine below_drew ?_ | refine below_drewN ?_ _)⟩
theorem made2_0 (w:World) (C D:List Value) (t s:TypeId):Blk ((w.alloc (.cells C.toArray t)).alloc (.cells D.toArray s)) w.heap.size C t:=(Blk.made w C t).below baa
theorem made3_0 (w:World) (C D E:List Value) (t s r:TypeId):Blk (((w.alloc (.cells C.toArray t)).alloc (.cells D.toArray s)).alloc (.cells E.toArray r)) w.heap.size C t:=(made2_0 w C D t s).below baa
theorem reckon_e (r0 r1 r2 r3 t en:Int) (i:Bool) (a c s0 s1 s2 s3:Int) (op:Int) (ka kb:Nat) (la:ka<4) (lb:kb<4) (z:Int) (hz:0<=z/\z<4) (ra rb:Int) (hra:[r0,r1,r2,r3][ka]? =some ra) (hrb:[r0,r1,r2,r3][kb]? =some rb) (X X2:Int) (E:Int) (hE:E≠0)
 (DO:Hid (∀ W:World,Calls Tryz.prog 109 #[.int .i64 op,.int .u64 ra,.int .u64 rb] W fun e w'=>e=.returned (.tuple #[.int .u64 X,.int .i64 X2,.int .i64 E])/\ ∃ n,w'=W.drewN n)) (w:World) :
 Calls Tryz.prog 92 #[(St.mk r0 r1 r2 r3 t en i a c s0 s1 s2 s3).val,.int .i64 op,.int .i64 (ka:Int),.int .i64 (kb:Int),.int .i64 z] w (re (.tuple #[(St.mk r0 r1 r2 r3 t en i a c s0 s1 s2 s3).val,.int .i64 E]) w):=by
 have C:Hid (∀ (b:Nat) (w:World),w.cell? ⟨b,0,none⟩=some (.int .i64 (ka:Int))->w.cell? ⟨b,1,none⟩=some (.int .i64 (kb:Int))->w.cell? ⟨b,2,none⟩=some (.int .i64 z)->Calls Tryz.prog 108 #[.slice (some ⟨b,0,none⟩) 3 3] w fun e w'=>e=.returned (.bool true)/\w'=w):=fun b w k0 k1 k2=>by
  have q:=regs3 ka kb z b w k0 k1 k2
  rw [decide_eq_true (by omega)] at q
  exact q
 have g: ∀ (k:Nat) (v:Int),k<4->[r0,r1,r2,r3][k]? =some v->((sd1 r0 r1 r2 r3 t en i a c s0 s1 s2 s3):List Value)[k]? =some (.int .u64 v):=fun k v hk hv=>by
  match k,hk with
  | 0, _ => simp at hv; simp [hv]
  | 1, _ => simp at hv; simp [hv]
  | 2, _ => simp at hv; simp [hv]
  | 3, _ => simp at hv; simp [hv]
 have GA:Hid (((sd1 r0 r1 r2 r3 t en i a c s0 s1 s2 s3):List Value)[ka]? =some (.int .u64 ra)):=g ka ra la hra
 have GB:Hid (((sd1 r0 r1 r2 r3 t en i a c s0 s1 s2 s3):List Value)[kb]? =some (.int .u64 rb)):=g kb rb lb hrb
 clear g hra hrb
 have d1:decide ((ka:Int)<0)=false:=by simp
 have d2:decide ((ka:Int)<4)=true:=kg
 have d3:decide ((kb:Int)<0)=false:=by simp
 have d4:decide ((kb:Int)<4)=true:=kg
 have e0:(E==0)=false:=by simpa using hE
 have e1:(E != 0)=true:=by simpa using hE
 go_enter Tryz.func92,Tryz.ntmps92
 go_wp2_with fail
 refine (C.out _ _ ?c ?d ?f).mono ?_
 case c=>exact new3 _ _ _ _ _ _
 case d=>exact new3 _ _ _ _ _ _
 case f=>exact new3 _ _ _ _ _ _
 rintro e u ⟨rfl,hu⟩
 have HU:Hid (u=_):=hu
 have ca:u.cell? ⟨w.heap.size,ka,none⟩=some (.int .u64 ra):=by
  rw [hu,Blk.cell (made3_0 _ _ _ _ _ _ _)];exact GA.out
 have cb:u.cell? ⟨w.heap.size,kb,none⟩=some (.int .u64 rb):=by
  rw [hu,Blk.cell (made3_0 _ _ _ _ _ _ _)];exact GB.out
 clear hu
 go_wp2_with fail
 go_quiet ((go_at_call 109;refine Calls.quiet_of (DO.out _)))
 have hu:=HU.out
 clear HU ca cb
 subst hu
 rw [drewN_alloc3]
 generalize hw2:w.drewN nq=w2
 have hsz:w.heap.size=w2.heap.size:=by rw [<- hw2];rfl
 have BB:Hid (∀ W,bc w2 W->bc w W):=fun W h=>by
  subst hw2
  exact ⟨h.os,h.tape,h.output,h.size,h.block⟩
 rw [hsz]
 clear hsz hw2
 go_wp2_with fail
 go_returns
 exact ⟨rfl,BB.out _ (by repeat (first | exact Below.refl _ _ | refine below_new ?_ _ | refine below_drew ?_ | refine below_drewN ?_ _))⟩
theorem reckon_0 (r0 r1 r2 r3 t en:Int) (i:Bool) (a c s0 s1 s2 s3:Int) (op:Int) (ka kb:Nat) (la:ka<4) (lb:kb<4) (ra rb:Int) (hra:[r0,r1,r2,r3][ka]? =some ra) (hrb:[r0,r1,r2,r3][kb]? =some rb) (X X2:Int) (O:Int) (hO:bits .or .i64 t X2=O)
 (DO:Hid (∀ W:World,Calls Tryz.prog 109 #[.int .i64 op,.int .u64 ra,.int .u64 rb] W fun e w'=>e=.returned (.tuple #[.int .u64 X,.int .i64 X2,.int .i64 0])/\ ∃ n,w'=W.drewN n)) (w:World) :
 Calls Tryz.prog 92 #[(St.mk r0 r1 r2 r3 t en i a c s0 s1 s2 s3).val,.int .i64 op,.int .i64 (ka:Int),.int .i64 (kb:Int),.int .i64 0] w (re (.tuple #[(St.mk X r1 r2 r3 O en i a c s0 s1 s2 s3).val,.int .i64 0]) w):=by
 have C:Hid (∀ (b:Nat) (w:World),w.cell? ⟨b,0,none⟩=some (.int .i64 (ka:Int))->w.cell? ⟨b,1,none⟩=some (.int .i64 (kb:Int))->w.cell? ⟨b,2,none⟩=some (.int .i64 0)->Calls Tryz.prog 108 #[.slice (some ⟨b,0,none⟩) 3 3] w fun e w'=>e=.returned (.bool true)/\w'=w):=fun b w k0 k1 k2=>by
  have q:=regs3 ka kb 0 b w k0 k1 k2
  rw [decide_eq_true (by omega)] at q
  exact q
 have g: ∀ (k:Nat) (v:Int),k<4->[r0,r1,r2,r3][k]? =some v->((sd1 r0 r1 r2 r3 t en i a c s0 s1 s2 s3):List Value)[k]? =some (.int .u64 v):=fun k v hk hv=>by
  match k,hk with
  | 0, _ => simp at hv; simp [hv]
  | 1, _ => simp at hv; simp [hv]
  | 2, _ => simp at hv; simp [hv]
  | 3, _ => simp at hv; simp [hv]
 have GA:Hid (((sd1 r0 r1 r2 r3 t en i a c s0 s1 s2 s3):List Value)[ka]? =some (.int .u64 ra)):=g ka ra la hra
 have GB:Hid (((sd1 r0 r1 r2 r3 t en i a c s0 s1 s2 s3):List Value)[kb]? =some (.int .u64 rb)):=g kb rb lb hrb
 clear g hra hrb
 have d1:decide ((ka:Int)<0)=false:=by simp
 have d2:decide ((ka:Int)<4)=true:=kg
 have d3:decide ((kb:Int)<0)=false:=by simp
 have d4:decide ((kb:Int)<4)=true:=kg
 go_enter Tryz.func92,Tryz.ntmps92
 go_wp2_with fail
 refine (C.out _ _ ?c ?d ?f).mono ?_
 case c=>exact new3 _ _ _ _ _ _
 case d=>exact new3 _ _ _ _ _ _
 case f=>exact new3 _ _ _ _ _ _
 rintro e u ⟨rfl,hu⟩
 have HU:Hid (u=_):=hu
 have ca:u.cell? ⟨w.heap.size,ka,none⟩=some (.int .u64 ra):=by
  rw [hu,Blk.cell (made3_0 _ _ _ _ _ _ _)];exact GA.out
 have cb:u.cell? ⟨w.heap.size,kb,none⟩=some (.int .u64 rb):=by
  rw [hu,Blk.cell (made3_0 _ _ _ _ _ _ _)];exact GB.out
 clear hu
 go_wp2_with fail
 go_quiet ((go_at_call 109;refine Calls.quiet_of (DO.out _)))
 have hu:=HU.out
 clear HU ca cb
 subst hu
 rw [drewN_alloc3]
 generalize hw2:w.drewN nq=w2
 have hsz:w.heap.size=w2.heap.size:=by rw [<- hw2];rfl
 have BB:Hid (∀ W,bc w2 W->bc w W):=fun W h=>by
  subst hw2
  exact ⟨h.os,h.tape,h.output,h.size,h.block⟩
 rw [hsz]
 clear hsz hw2
 go_wp2_with fail
 go_returns
 exact ⟨rfl,BB.out _ (by repeat (first | exact Below.refl _ _ | refine below_new ?_ _ | refine below_drew ?_ | refine below_drewN ?_ _))⟩
theorem reckon_1 (r0 r1 r2 r3 t en:Int) (i:Bool) (a c s0 s1 s2 s3:Int) (op:Int) (ka kb:Nat) (la:ka<4) (lb:kb<4) (ra rb:Int) (hra:[r0,r1,r2,r3][ka]? =some ra) (hrb:[r0,r1,r2,r3][kb]? =some rb) (X X2:Int) (O:Int) (hO:bits .or .i64 t X2=O)
 (DO:Hid (∀ W:World,Calls Tryz.prog 109 #[.int .i64 op,.int .u64 ra,.int .u64 rb] W fun e w'=>e=.returned (.tuple #[.int .u64 X,.int .i64 X2,.int .i64 0])/\ ∃ n,w'=W.drewN n)) (w:World) :
 Calls Tryz.prog 92 #[(St.mk r0 r1 r2 r3 t en i a c s0 s1 s2 s3).val,.int .i64 op,.int .i64 (ka:Int),.int .i64 (kb:Int),.int .i64 1] w (re (.tuple #[(St.mk r0 X r2 r3 O en i a c s0 s1 s2 s3).val,.int .i64 0]) w):=by
 have C:Hid (∀ (b:Nat) (w:World),w.cell? ⟨b,0,none⟩=some (.int .i64 (ka:Int))->w.cell? ⟨b,1,none⟩=some (.int .i64 (kb:Int))->w.cell? ⟨b,2,none⟩=some (.int .i64 1)->Calls Tryz.prog 108 #[.slice (some ⟨b,0,none⟩) 3 3] w fun e w'=>e=.returned (.bool true)/\w'=w):=fun b w k0 k1 k2=>by
  have q:=regs3 ka kb 1 b w k0 k1 k2
  rw [decide_eq_true (by omega)] at q
  exact q
 have g: ∀ (k:Nat) (v:Int),k<4->[r0,r1,r2,r3][k]? =some v->((sd1 r0 r1 r2 r3 t en i a c s0 s1 s2 s3):List Value)[k]? =some (.int .u64 v):=fun k v hk hv=>by
  match k,hk with
  | 0, _ => simp at hv; simp [hv]
  | 1, _ => simp at hv; simp [hv]
  | 2, _ => simp at hv; simp [hv]
  | 3, _ => simp at hv; simp [hv]
 have GA:Hid (((sd1 r0 r1 r2 r3 t en i a c s0 s1 s2 s3):List Value)[ka]? =some (.int .u64 ra)):=g ka ra la hra
 have GB:Hid (((sd1 r0 r1 r2 r3 t en i a c s0 s1 s2 s3):List Value)[kb]? =some (.int .u64 rb)):=g kb rb lb hrb
 clear g hra hrb
 have d1:decide ((ka:Int)<0)=false:=by simp
 have d2:decide ((ka:Int)<4)=true:=kg
 have d3:decide ((kb:Int)<0)=false:=by simp
 have d4:decide ((kb:Int)<4)=true:=kg
 go_enter Tryz.func92,Tryz.ntmps92
 go_wp2_with fail
 refine (C.out _ _ ?c ?d ?f).mono ?_
 case c=>exact new3 _ _ _ _ _ _
 case d=>exact new3 _ _ _ _ _ _
 case f=>exact new3 _ _ _ _ _ _
 rintro e u ⟨rfl,hu⟩
 have HU:Hid (u=_):=hu
 have ca:u.cell? ⟨w.heap.size,ka,none⟩=some (.int .u64 ra):=by
  rw [hu,Blk.cell (made3_0 _ _ _ _ _ _ _)];exact GA.out
 have cb:u.cell? ⟨w.heap.size,kb,none⟩=some (.int .u64 rb):=by
  rw [hu,Blk.cell (made3_0 _ _ _ _ _ _ _)];exact GB.out
 clear hu
 go_wp2_with fail
 go_quiet ((go_at_call 109;refine Calls.quiet_of (DO.out _)))
 have hu:=HU.out
 clear HU ca cb
 subst hu
 rw [drewN_alloc3]
 generalize hw2:w.drewN nq=w2
 have hsz:w.heap.size=w2.heap.size:=by rw [<- hw2];rfl
 have BB:Hid (∀ W,bc w2 W->bc w W):=fun W h=>by
  subst hw2
  exact ⟨h.os,h.tape,h.output,h.size,h.block⟩
 rw [hsz]
 clear hsz hw2
 go_wp2_with fail
 go_returns
 exact ⟨rfl,BB.out _ (by repeat (first | exact Below.refl _ _ | refine below_new ?_ _ | refine below_drew ?_ | refine below_drewN ?_ _))⟩
theorem reckon_2 (r0 r1 r2 r3 t en:Int) (i:Bool) (a c s0 s1 s2 s3:Int) (op:Int) (ka kb:Nat) (la:ka<4) (lb:kb<4) (ra rb:Int) (hra:[r0,r1,r2,r3][ka]? =some ra) (hrb:[r0,r1,r2,r3][kb]? =some rb) (X X2:Int) (O:Int) (hO:bits .or .i64 t X2=O)
 (DO:Hid (∀ W:World,Calls Tryz.prog 109 #[.int .i64 op,.int .u64 ra,.int .u64 rb] W fun e w'=>e=.returned (.tuple #[.int .u64 X,.int .i64 X2,.int .i64 0])/\ ∃ n,w'=W.drewN n)) (w:World) :
 Calls Tryz.prog 92 #[(St.mk r0 r1 r2 r3 t en i a c s0 s1 s2 s3).val,.int .i64 op,.int .i64 (ka:Int),.int .i64 (kb:Int),.int .i64 2] w (re (.tuple #[(St.mk r0 r1 X r3 O en i a c s0 s1 s2 s3).val,.int .i64 0]) w):=by
 have C:Hid (∀ (b:Nat) (w:World),w.cell? ⟨b,0,none⟩=some (.int .i64 (ka:Int))->w.cell? ⟨b,1,none⟩=some (.int .i64 (kb:Int))->w.cell? ⟨b,2,none⟩=some (.int .i64 2)->Calls Tryz.prog 108 #[.slice (some ⟨b,0,none⟩) 3 3] w fun e w'=>e=.returned (.bool true)/\w'=w):=fun b w k0 k1 k2=>by
  have q:=regs3 ka kb 2 b w k0 k1 k2
  rw [decide_eq_true (by omega)] at q
  exact q
 have g: ∀ (k:Nat) (v:Int),k<4->[r0,r1,r2,r3][k]? =some v->((sd1 r0 r1 r2 r3 t en i a c s0 s1 s2 s3):List Value)[k]? =some (.int .u64 v):=fun k v hk hv=>by
  match k,hk with
  | 0, _ => simp at hv; simp [hv]
  | 1, _ => simp at hv; simp [hv]
  | 2, _ => simp at hv; simp [hv]
  | 3, _ => simp at hv; simp [hv]
 have GA:Hid (((sd1 r0 r1 r2 r3 t en i a c s0 s1 s2 s3):List Value)[ka]? =some (.int .u64 ra)):=g ka ra la hra
 have GB:Hid (((sd1 r0 r1 r2 r3 t en i a c s0 s1 s2 s3):List Value)[kb]? =some (.int .u64 rb)):=g kb rb lb hrb
 clear g hra hrb
 have d1:decide ((ka:Int)<0)=false:=by simp
 have d2:decide ((ka:Int)<4)=true:=kg
 have d3:decide ((kb:Int)<0)=false:=by simp
 have d4:decide ((kb:Int)<4)=true:=kg
 go_enter Tryz.func92,Tryz.ntmps92
 go_wp2_with fail
 refine (C.out _ _ ?c ?d ?f).mono ?_
 case c=>exact new3 _ _ _ _ _ _
 case d=>exact new3 _ _ _ _ _ _
 case f=>exact new3 _ _ _ _ _ _
 rintro e u ⟨rfl,hu⟩
 have HU:Hid (u=_):=hu
 have ca:u.cell? ⟨w.heap.size,ka,none⟩=some (.int .u64 ra):=by
  rw [hu,Blk.cell (made3_0 _ _ _ _ _ _ _)];exact GA.out
 have cb:u.cell? ⟨w.heap.size,kb,none⟩=some (.int .u64 rb):=by
  rw [hu,Blk.cell (made3_0 _ _ _ _ _ _ _)];exact GB.out
 clear hu
 go_wp2_with fail
 go_quiet ((go_at_call 109;refine Calls.quiet_of (DO.out _)))
 have hu:=HU.out
 clear HU ca cb
 subst hu
 rw [drewN_alloc3]
 generalize hw2:w.drewN nq=w2
 have hsz:w.heap.size=w2.heap.size:=by rw [<- hw2];rfl
 have BB:Hid (∀ W,bc w2 W->bc w W):=fun W h=>by
  subst hw2
  exact ⟨h.os,h.tape,h.output,h.size,h.block⟩
 rw [hsz]
 clear hsz hw2
 go_wp2_with fail
 go_returns
 exact ⟨rfl,BB.out _ (by repeat (first | exact Below.refl _ _ | refine below_new ?_ _ | refine below_drew ?_ | refine below_drewN ?_ _))⟩
theorem reckon_3 (r0 r1 r2 r3 t en:Int) (i:Bool) (a c s0 s1 s2 s3:Int) (op:Int) (ka kb:Nat) (la:ka<4) (lb:kb<4) (ra rb:Int) (hra:[r0,r1,r2,r3][ka]? =some ra) (hrb:[r0,r1,r2,r3][kb]? =some rb) (X X2:Int) (O:Int) (hO:bits .or .i64 t X2=O)
 (DO:Hid (∀ W:World,Calls Tryz.prog 109 #[.int .i64 op,.int .u64 ra,.int .u64 rb] W fun e w'=>e=.returned (.tuple #[.int .u64 X,.int .i64 X2,.int .i64 0])/\ ∃ n,w'=W.drewN n)) (w:World) :
 Calls Tryz.prog 92 #[(St.mk r0 r1 r2 r3 t en i a c s0 s1 s2 s3).val,.int .i64 op,.int .i64 (ka:Int),.int .i64 (kb:Int),.int .i64 3] w (re (.tuple #[(St.mk r0 r1 r2 X O en i a c s0 s1 s2 s3).val,.int .i64 0]) w):=by
 have C:Hid (∀ (b:Nat) (w:World),w.cell? ⟨b,0,none⟩=some (.int .i64 (ka:Int))->w.cell? ⟨b,1,none⟩=some (.int .i64 (kb:Int))->w.cell? ⟨b,2,none⟩=some (.int .i64 3)->Calls Tryz.prog 108 #[.slice (some ⟨b,0,none⟩) 3 3] w fun e w'=>e=.returned (.bool true)/\w'=w):=fun b w k0 k1 k2=>by
  have q:=regs3 ka kb 3 b w k0 k1 k2
  rw [decide_eq_true (by omega)] at q
  exact q
 have g: ∀ (k:Nat) (v:Int),k<4->[r0,r1,r2,r3][k]? =some v->((sd1 r0 r1 r2 r3 t en i a c s0 s1 s2 s3):List Value)[k]? =some (.int .u64 v):=fun k v hk hv=>by
  match k,hk with
  | 0, _ => simp at hv; simp [hv]
  | 1, _ => simp at hv; simp [hv]
  | 2, _ => simp at hv; simp [hv]
  | 3, _ => simp at hv; simp [hv]
 have GA:Hid (((sd1 r0 r1 r2 r3 t en i a c s0 s1 s2 s3):List Value)[ka]? =some (.int .u64 ra)):=g ka ra la hra
 have GB:Hid (((sd1 r0 r1 r2 r3 t en i a c s0 s1 s2 s3):List Value)[kb]? =some (.int .u64 rb)):=g kb rb lb hrb
 clear g hra hrb
 have d1:decide ((ka:Int)<0)=false:=by simp
 have d2:decide ((ka:Int)<4)=true:=kg
 have d3:decide ((kb:Int)<0)=false:=by simp
 have d4:decide ((kb:Int)<4)=true:=kg
 go_enter Tryz.func92,Tryz.ntmps92
 go_wp2_with fail
 refine (C.out _ _ ?c ?d ?f).mono ?_
 case c=>exact new3 _ _ _ _ _ _
 case d=>exact new3 _ _ _ _ _ _
 case f=>exact new3 _ _ _ _ _ _
 rintro e u ⟨rfl,hu⟩
 have HU:Hid (u=_):=hu
 have ca:u.cell? ⟨w.heap.size,ka,none⟩=some (.int .u64 ra):=by
  rw [hu,Blk.cell (made3_0 _ _ _ _ _ _ _)];exact GA.out
 have cb:u.cell? ⟨w.heap.size,kb,none⟩=some (.int .u64 rb):=by
  rw [hu,Blk.cell (made3_0 _ _ _ _ _ _ _)];exact GB.out
 clear hu
 go_wp2_with fail
 go_quiet ((go_at_call 109;refine Calls.quiet_of (DO.out _)))
 have hu:=HU.out
 clear HU ca cb
 subst hu
 rw [drewN_alloc3]
 generalize hw2:w.drewN nq=w2
 have hsz:w.heap.size=w2.heap.size:=by rw [<- hw2];rfl
 have BB:Hid (∀ W,bc w2 W->bc w W):=fun W h=>by
  subst hw2
  exact ⟨h.os,h.tape,h.output,h.size,h.block⟩
 rw [hsz]
 clear hsz hw2
 go_wp2_with fail
 go_returns
 exact ⟨rfl,BB.out _ (by repeat (first | exact Below.refl _ _ | refine below_new ?_ _ | refine below_drew ?_ | refine below_drewN ?_ _))⟩
end Go.Proofs.YtokpmclmdobgeaaGreat.Tr
