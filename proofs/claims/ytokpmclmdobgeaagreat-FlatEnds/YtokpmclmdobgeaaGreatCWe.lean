import Derived.Test.YtokpmclmdobgeaaGreatJDe
set_option linter.unusedSimpArgs false
set_option linter.unusedVariables false
set_option maxRecDepth 8000
open Go.ChangeShapes Go.WideShapes Go.ChangeAt Go.RowKit Go.Maps
namespace Go.Proofs.YtokpmclmdobgeaaGreat.Ca
def Says (W:Wd) (c:Cl):Prop:= ∃ n,callV W=some (c,n)/\restZ W n
def usedV (x:Int):Int :=
 if x=1\/x=3\/x=5\/x=6 then 3 else if x=2\/x=4\/x=7\/x=16 then 2 else if x=8\/x=9\/x=10\/x=12 then 1 else if x=15 then 4 else if x=11\/x=13\/x=14 then 0 else -1
inductive Case (W:Wd):Cl->Nat->Prop where
 | o1 (h0 : W.at 0 = 1) (h1 : pagesOk (W.at 1) (W.at 2)) (h2 : W.at 3 < 4) : Case W ⟨1, (W.at 1), (W.at 1 + W.at 2), (permW (W.at 3)), true, (permX (W.at 3)), 0, 0, 0, 0, 0, 0, 0⟩ 4
 | o2 (h0 : W.at 0 = 2) (h1 : pagesOk (W.at 1) (W.at 2)) : Case W ⟨2, (W.at 1), (W.at 1 + W.at 2), false, false, false, 0, 0, 0, 0, 0, 0, 0⟩ 3
 | o3 (h0 : W.at 0 = 3) (h1 : pagesOk (W.at 1) (W.at 2)) (h2 : W.at 3 < 4) : Case W ⟨3, (W.at 1), (W.at 1 + W.at 2), (permW (W.at 3)), true, (permX (W.at 3)), 0, 0, 0, 0, 0, 0, 0⟩ 4
 | o4 (h0 : W.at 0 = 4) (h1 : spotOk (W.at 1) (W.at 2)) : Case W ⟨4, 0, 0, false, false, false, (W.at 1), (W.at 2), 0, 0, 0, 0, 0⟩ 3
 | o6 (h0 : W.at 0 = 6) (h1 : W.at 1 < 34359738368) (h2 : W.at 2 < 16) (h3 : W.at 3 < 2) : Case W ⟨6, (W.at 1), (W.at 1 + 1), (W.at 3 == 1), false, false, 0, 0, 0, (W.at 2), 0, 0, 0⟩ 4
 | o7 (h0 : W.at 0 = 7) (h1 : W.at 1 < 256) (h2 : W.at 2 < 34359738368) : Case W ⟨7, (W.at 2), (W.at 2 + 1), false, false, false, 0, 0, 0, (W.at 1), 0, 0, 0⟩ 3
 | o8 (h0 : W.at 0 = 8) (h1 : W.at 1 < 256) : Case W ⟨8, 0, 0, false, false, false, 0, 0, 0, (W.at 1), 0, 0, 0⟩ 2
 | o9 (h0 : W.at 0 = 9) (h1 : W.at 1 < 256) : Case W ⟨9, 0, 0, false, false, false, 0, 0, 0, (W.at 1), 0, 0, 0⟩ 2
 | o10 (h0 : W.at 0 = 10) (h1 : W.at 1 < 140737488355328) : Case W ⟨10, 0, 0, false, false, false, (W.at 1), 0, 0, 0, 0, 0, 0⟩ 2
 | o11 (h0 : W.at 0 = 11)  : Case W ⟨11, 0, 0, false, false, false, 0, 0, 0, 0, 0, 0, 0⟩ 1
 | o12 (h0 : W.at 0 = 12) (h1 : W.at 1 < 1048577) : Case W ⟨12, 0, 0, false, false, false, 0, 0, 0, (W.at 1), 0, 0, 0⟩ 2
 | o13 (h0 : W.at 0 = 13)  : Case W ⟨13, 0, 0, false, false, false, 0, 0, 0, 0, 0, 0, 0⟩ 1
 | o14 (h0 : W.at 0 = 14)  : Case W ⟨14, 0, 0, false, false, false, 0, 0, 0, 0, 0, 0, 0⟩ 1
 | o15 (h0 : W.at 0 = 15) (h1 : W.at 1 < 8) (h2 : W.at 2 < 4) (h3 : W.at 3 < 4) (h4 : W.at 4 < 4) : Case W ⟨15, 0, 0, false, false, false, 0, 0, 0, (W.at 1 + 1), (W.at 2), (W.at 3), (W.at 4)⟩ 5
 | o16 (h0 : W.at 0 = 16) (h1 : W.at 1 < 4) : Case W ⟨16, 0, 0, false, false, false, 0, 0, (W.at 2), (W.at 1), 0, 0, 0⟩ 3
 | o5 (h0 : W.at 0 = 5) (h1 : spotOk (W.at 1) (W.at 2)) (h2 : (W.at 2 = 1 ∧ W.at 3 < 256) ∨ (W.at 2 = 2 ∧ W.at 3 < 65536) ∨ (W.at 2 = 4 ∧ W.at 3 < 4294967296) ∨ (W.at 2 = 8 ∧ W.at 3 < 18446744073709551616)) : Case W ⟨5, 0, 0, false, false, false, W.at 1, W.at 2, W.at 3, 0, 0, 0, 0⟩ 4
theorem case_of {W:Wd} {c:Cl} {n:Nat} (hc:callV W=some (c,n)):Case W c n:=by
 unfold callV at hc
 by_cases z1:W.at 0=1
 . rw [if_pos z1] at hc
   by_cases hq:pagesOk (W.at 1) (W.at 2)/\W.at 3<4
   . rw [if_pos hq] at hc
     obtain ⟨rfl,rfl⟩:=Prod.mk.inj (sia hc)
     exact .o1 z1 hq.1 hq.2
   . exact kr1
 rw [if_neg z1] at hc
 by_cases z2:W.at 0=2
 . rw [if_pos z2] at hc
   by_cases hq:pagesOk (W.at 1) (W.at 2)
   . rw [if_pos hq] at hc
     obtain ⟨rfl,rfl⟩:=Prod.mk.inj (sia hc)
     exact .o2 z2 hq
   . exact kr1
 rw [if_neg z2] at hc
 by_cases z3:W.at 0=3
 . rw [if_pos z3] at hc
   by_cases hq:pagesOk (W.at 1) (W.at 2)/\W.at 3<4
   . rw [if_pos hq] at hc
     obtain ⟨rfl,rfl⟩:=Prod.mk.inj (sia hc)
     exact .o3 z3 hq.1 hq.2
   . exact kr1
 rw [if_neg z3] at hc
 by_cases z4:W.at 0=4
 . rw [if_pos z4] at hc
   by_cases hq:spotOk (W.at 1) (W.at 2)
   . rw [if_pos hq] at hc
     obtain ⟨rfl,rfl⟩:=Prod.mk.inj (sia hc)
     exact .o4 z4 hq
   . exact kr1
 rw [if_neg z4] at hc
 by_cases z6:W.at 0=6
 . rw [if_pos z6] at hc
   by_cases hq:W.at 1<34359738368/\W.at 2<16/\W.at 3<2
   . rw [if_pos hq] at hc
     obtain ⟨rfl,rfl⟩:=Prod.mk.inj (sia hc)
     exact .o6 z6 hq.1 hq.2.1 hq.2.2
   . exact kr1
 rw [if_neg z6] at hc
 by_cases z7:W.at 0=7
 . rw [if_pos z7] at hc
   by_cases hq:W.at 1<256/\W.at 2<34359738368
   . rw [if_pos hq] at hc
     obtain ⟨rfl,rfl⟩:=Prod.mk.inj (sia hc)
     exact .o7 z7 hq.1 hq.2
   . exact kr1
 rw [if_neg z7] at hc
 by_cases z8:W.at 0=8
 . rw [if_pos z8] at hc
   by_cases hq:W.at 1<256
   . rw [if_pos hq] at hc
     obtain ⟨rfl,rfl⟩:=Prod.mk.inj (sia hc)
     exact .o8 z8 hq
   . exact kr1
 rw [if_neg z8] at hc
 by_cases z9:W.at 0=9
 . rw [if_pos z9] at hc
   by_cases hq:W.at 1<256
   . rw [if_pos hq] at hc
     obtain ⟨rfl,rfl⟩:=Prod.mk.inj (sia hc)
     exact .o9 z9 hq
   . exact kr1
 rw [if_neg z9] at hc
 by_cases z10:W.at 0=10
 . rw [if_pos z10] at hc
   by_cases hq:W.at 1<140737488355328
   . rw [if_pos hq] at hc
     obtain ⟨rfl,rfl⟩:=Prod.mk.inj (sia hc)
     exact .o10 z10 hq
   . exact kr1
 rw [if_neg z10] at hc
 by_cases z11:W.at 0=11
 . rw [if_pos z11] at hc
   obtain ⟨rfl,rfl⟩:=Prod.mk.inj (sia hc)
   exact .o11 z11
 rw [if_neg z11] at hc
 by_cases z12:W.at 0=12
 . rw [if_pos z12] at hc
   by_cases hq:W.at 1<1048577
   . rw [if_pos hq] at hc
     obtain ⟨rfl,rfl⟩:=Prod.mk.inj (sia hc)
     exact .o12 z12 hq
   . exact kr1
 rw [if_neg z12] at hc
 by_cases z13:W.at 0=13
 . rw [if_pos z13] at hc
   obtain ⟨rfl,rfl⟩:=Prod.mk.inj (sia hc)
   exact .o13 z13
 rw [if_neg z13] at hc
 by_cases z14:W.at 0=14
 . rw [if_pos z14] at hc
   obtain ⟨rfl,rfl⟩:=Prod.mk.inj (sia hc)
   exact .o14 z14
 rw [if_neg z14] at hc
 by_cases z15:W.at 0=15
 . rw [if_pos z15] at hc
   by_cases hq:W.at 1<8/\W.at 2<4/\W.at 3<4/\W.at 4<4
   . rw [if_pos hq] at hc
     obtain ⟨rfl,rfl⟩:=Prod.mk.inj (sia hc)
     exact .o15 z15 hq.1 hq.2.1 hq.2.2.1 hq.2.2.2
   . exact kr1
 rw [if_neg z15] at hc
 by_cases z16:W.at 0=16
 . rw [if_pos z16] at hc
   by_cases hq:W.at 1<4
   . rw [if_pos hq] at hc
     obtain ⟨rfl,rfl⟩:=Prod.mk.inj (sia hc)
     exact .o16 z16 hq
   . exact kr1
 rw [if_neg z16] at hc
 by_cases z5:W.at 0=5
 . rw [if_pos z5] at hc
   by_cases hq:spotOk (W.at 1) (W.at 2)
   . rw [if_pos hq] at hc
     by_cases hr:(W.at 2=1/\W.at 3<256)\/(W.at 2=2/\W.at 3<65536)\/(W.at 2=4/\W.at 3<4294967296)\/(W.at 2=8/\W.at 3<18446744073709551616)
     . rw [if_pos hr] at hc
       obtain ⟨rfl,rfl⟩:=Prod.mk.inj (sia hc)
       exact .o5 z5 hq hr
     . rw [if_neg hr] at hc;cases hc
   . exact kr1
 rw [if_neg z5] at hc
 cases hc
theorem case_used {W:Wd} {c:Cl} {n:Nat} (h:Case W c n):(n:Int)=usedV (W.at 0)+1/\n<6/\c.op=W.at 0:=by
 cases h <;> simp [*,usedV]
theorem read_yes (W:Wd) (hw:W.wf) (c:Cl) (h:Says W c) (w:World):Calls Tryz.prog 19 #[W.val] w (re (.tuple #[c.val,.int .i64 0]) w):=by
 obtain ⟨n,h1,h2⟩:=h
 exact read_ok W hw c n h1 (case_used (case_of h1)).2.1 h2 w
theorem read_no (W:Wd) (hw:W.wf) (h: ¬ ∃ c,Says W c) (w:World):Calls Tryz.prog 19 #[W.val] w (re (.tuple #[Cl.zero.val,.int .i64 13]) w):=by
 cases hc:callV W with
 | none => exact read_no1 W hw hc w
 | some p =>
  obtain ⟨c,n⟩:=p
  exact read_no2 W hw c n hc (case_used (case_of hc)).2.1 (fun z=>h ⟨c,n,hc,z⟩) w
end Go.Proofs.YtokpmclmdobgeaaGreat.Ca
