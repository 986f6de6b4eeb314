import Derived.Test.YtlaiadheelgbdaaGreatMHc
import Derived.BigQuiet
import Derived.Deep.QuietTactic
import Derived.Deep.DeepCutAuto
namespace Go.Proofs.YtlaiadheelgbdaaGreat.Ca
open Go.ChangeShapes Go.WideShapes Go.ChangeAt Go.RowKit Go.Maps
set_option linter.unusedSimpArgs false
set_option linter.unusedVariables false
set_option maxRecDepth 8000
structure Wd where
 x0:Int
 x1:Int
 x2:Int
 x3:Int
 x4:Int
 x5:Int
abbrev Wd.val (W:Wd):Value:=.agg #[.int .u64 W.x0,.int .u64 W.x1,.int .u64 W.x2,.int .u64 W.x3,.int .u64 W.x4,.int .u64 W.x5]
def Wd.list (W:Wd):List Int:=[W.x0,W.x1,W.x2,W.x3,W.x4,W.x5]
def Wd.at (W:Wd) (k:Nat):Int:=W.list[k]?.getD 0
def Wd.wf (W:Wd):Prop:= ∀ k,0<=W.at k/\W.at k<18446744073709551616
def IsR (w:World) (b:Nat) (W:Wd) (k:Nat):Prop:=w.heap[b]? =some (.cells #[.int .u64 W.x0,.int .u64 W.x1,.int .u64 W.x2,.int .u64 W.x3,.int .u64 W.x4,.int .u64 W.x5,.int .i64 (k:Int)] 93 (0,0))
theorem IsR.cell {w:World} {b:Nat} {W:Wd} {k:Nat} (h:IsR w b W k) (i:Nat) (hi:i<6):w.cell? ⟨b,i,none⟩=some (.int .u64 (W.at i)):=by
 rw [Go.Joins.cell_of_block h i]
 match i,hi with
 | 0, _ => rfl
 | 1, _ => rfl
 | 2, _ => rfl
 | 3, _ => rfl
 | 4, _ => rfl
 | 5, _ => rfl
theorem IsR.next {w:World} {b:Nat} {W:Wd} {k:Nat} (h:IsR w b W k):w.cell? ⟨b,6,none⟩=some (.int .i64 (k:Int)):=Go.Joins.cell_of_block h 6
theorem IsR.free {w:World} {b:Nat} {W:Wd} {k:Nat} (h:IsR w b W k) (i:Nat):w.frozen? ⟨b,i,none⟩=false:=Go.Joins.unfrozen_of_block h i
theorem IsR.put {w:World} {b:Nat} {W:Wd} {k:Nat} (h:IsR w b W k):IsR (w.setCell ⟨b,6,none⟩ (.int .i64 ((k:Int)+1))) b W (k+1):=by
 unfold IsR
 rw [Go.Joins.block_setCell h]
 rfl
theorem IsR.kept {w w':World} {b:Nat} {W:Wd} {k:Nat} (h:IsR w b W k) (hb:b<w.heap.size->w'.heap[b]? =w.heap[b]?):IsR w' b W k:=(hb (blk_lt h)).trans h
theorem IsR.below {w w':World} {b:Nat} {W:Wd} {k:Nat} (h:IsR w b W k) (hb:Below w.heap.size w w'):IsR w' b W k:=h.kept (fun l=>hb.block b l)
theorem kb_drewN (x:Nat) (w:World) (n:Nat):Kb x w (w.drewN n):=⟨rfl,rfl,rfl,Nat.le_refl _,fun _ _ _=>rfl⟩
theorem kb_alloc (x:Nat) (w:World) (o:Obj):Kb x w (w.alloc o):=Kb.below (Go.Joins.below_alloc1 _ _)
theorem results_one {fn:Func} {p:Tmp} {t:TypeId} (h:fn.results= #[.cell p t]) (tmps:Array Value) (P:Program) (w:World) (a:Addr) (x:Value)
 (ha:tmps.getD p undef=.pointer (some a)) (hx:(loadVar t a).run P w=.ok x w):(results fn tmps).run P w=.ok x w:=by
 simp only [results,h]
 have e1: ∀ W:World,(asAddr (Value.pointer (some a))).run P W=.ok a W:=fun _=>rfl
 simp at ha
 simp [Sem.run_bind,Result.andThen,ha,e1,hx]
abbrev Blk (w:World) (b:Nat) (C:List Value) (t:TypeId):Prop:=w.heap[b]? =some (.cells C.toArray t (0,0))
theorem Blk.cell {w:World} {b:Nat} {C:List Value} {t:TypeId} (h:Blk w b C t) (i:Nat):w.cell? ⟨b,i,none⟩=C[i]? :=by rw [Go.Joins.cell_of_block h i];simp
theorem Blk.free {w:World} {b:Nat} {C:List Value} {t:TypeId} (h:Blk w b C t) (i:Nat):w.frozen? ⟨b,i,none⟩=false:=Go.Joins.unfrozen_of_block h i
theorem Blk.kb {w w':World} {b x:Nat} {C:List Value} {t:TypeId} (h:Blk w b C t) (k:Kb x w w') (ne:b≠x):Blk w' b C t:=(k.block b (blk_lt h) ne).trans h
theorem Blk.below {w w':World} {b:Nat} {C:List Value} {t:TypeId} (h:Blk w b C t) (k:Below w.heap.size w w'):Blk w' b C t:=(k.block b (blk_lt h)).trans h
theorem Blk.made (w:World) (C:List Value) (t:TypeId):Blk (w.alloc (.cells C.toArray t)) w.heap.size C t:=own1 w _
theorem Blk.set {w:World} {b:Nat} {C:List Value} {t:TypeId} (h:Blk w b C t) (i:Nat) (v:Value):Blk (w.setCell ⟨b,i,none⟩ v) b (C.set i v) t:=by
 unfold Blk
 rw [Go.Joins.block_setCell h];simp
theorem Blk.far {w:World} {b c:Nat} {C:List Value} {t:TypeId} (h:Blk w b C t) (o:Nat) (v:Value) (ne:b≠c):Blk (w.setCell ⟨c,o,none⟩ v) b C t:=h.kb (Kb.set w c o v) ne
theorem Blk.there {w:World} {b:Nat} {C:List Value} {t:TypeId} (h:Blk w b C t):w.there b 0 C.length:=fun j hj=>by
 rw [Nat.zero_add]
 exact ⟨by rw [h.cell j,List.getElem?_eq_getElem hj];rfl,h.free j⟩
theorem Blk.range {w:World} {b:Nat} {C:List Value} {t:TypeId} (h:Blk w b C t):w.rangeAt b 0 C:=fun j v hv=>by rw [Nat.zero_add,h.cell j];exact hv
theorem store_pat {P:Program} {ops:Array Oper} {rest:List Oper} {ty t:TypeId} {x y:Operand} {pos:String} {af:Array Edge} {a:Act} {w:World} {Q:Exit->Act->World->Prop} (b o:Nat) (cells:Array Value) (hx:a.eval x=.pointer (some ⟨b,o,none⟩)) (hy:a.eval y=.agg cells)
 (ht:w.there b o cells.size) (hi:(P.info? ty).map (·.size)=some cells.size) (h1:cells.all (·.oneCell')=true)
 (h:wpList P ops Q rest a (w.setCells b o cells.toList)):wpList P ops Q ({ dst:=none,op:=.store ty x y,type:=t,pos:=pos,after:=af,guard:=none }::rest) a w :=
 wpList_store_mid rfl ty x y rfl b o cells hx hy ht hi h1 h
theorem load_pat {P:Program} {ops:Array Oper} {rest:List Oper} {ty t:TypeId} {x:Operand} {q:Tmp} {pos:String} {af:Array Edge} {a:Act} {w:World} {Q:Exit->Act->World->Prop} (b o:Nat) (cs:List Value) (d:TypeDesc) (hx:a.eval x=.pointer (some ⟨b,o,none⟩)) (hc:w.rangeAt b o cs)
 (hu:P.underlying ty=some d) (hd:d.isRow=true) (hi:(P.info? ty).map (·.size)=some cs.length)
 (h:wpList P ops Q rest (a.put (some q) (.agg cs.toArray)) w):wpList P ops Q ({ dst:=some q,op:=.load ty x,type:=t,pos:=pos,after:=af,guard:=none }::rest) a w :=
 wpList_load_mid rfl ty x rfl b o hx cs d hc hu hd hi h
theorem Blk.scs {w:World} {b c:Nat} {C:List Value} {t:TypeId} (h:Blk w b C t) (ne:b≠c): ∀ (vs:List Value) (o:Nat),Blk (w.setCells c o vs) b C t:=fun vs=>by
 induction vs generalizing w with
 | nil => intro o; exact h
 | cons v r ih => intro o; rw [World.setCells]; exact ih (h.far o v ne) _
theorem kb_scs {x c:Nat} {w X:World} (h:Kb x w X) (l:w.heap.size<=c): ∀ (vs:List Value) (o:Nat),Kb x w (X.setCells c o vs):=fun vs=>by
 induction vs generalizing X with
 | nil => intro o; exact h
 | cons v r ih =>
  intro o
  rw [World.setCells]
  have k:=Kb.set X c o v
  exact ih ⟨k.os.trans h.os,k.tape.trans h.tape,k.output.trans h.output,Nat.le_trans h.size k.size,fun j hj hne=>(k.block j (Nat.lt_of_lt_of_le hj h.size) (by omega)).trans (h.block j hj hne)⟩ _
theorem kb_set {x c:Nat} {w X:World} (h:Kb x w X) (l:w.heap.size<=c) (o:Nat) (v:Value):Kb x w (X.setCell ⟨c,o,none⟩ v):=kb_scs h l [v] o
theorem IsR.blk {w:World} {b:Nat} {W:Wd} {k:Nat} (h:IsR w b W k):Blk w b [.int .u64 W.x0,.int .u64 W.x1,.int .u64 W.x2,.int .u64 W.x3,.int .u64 W.x4,.int .u64 W.x5,.int .i64 (k:Int)] 93:=h
theorem IsR.scs {w:World} {b c:Nat} {W:Wd} {k:Nat} (h:IsR w b W k) (ne:b≠c) (vs:List Value) (o:Nat):IsR (w.setCells c o vs) b W k:=h.blk.scs ne vs o
set_option maxHeartbeats 400000 in
theorem insist_yes (w:World):Calls Tryz.prog 45 #[.bool true] w fun e w'=>e=.returned (.tuple #[])/\w'=w:=by
 go_enter Tryz.func45,Tryz.ntmps45
 go_wp2_with fail
 go_returns
 exact ⟨rfl,rfl⟩
set_option maxHeartbeats 1000000 in
theorem word_any (b:Nat) (W:Wd) (k:Nat) (hk:k<6) (w:World) (h:IsR w b W k):Calls Tryz.prog 44 #[.pointer (some ⟨b,0,none⟩)] w fun e w'=>e=.returned (.int .u64 (W.at k))/\IsR w' b W (k+1)/\Kb b w w':=by
 have H:Hid (IsR w b W k):=h
 have lt0:=blk_lt h
 have c6:=h.next
 have ck:=h.cell k hk
 have f6:w.frozen? ⟨b,6,none⟩=false:=h.free _
 clear h
 generalize W.at k=x at *
 have d1:decide ((k:Int)<6)=true:=by simp;omega
 have d0:decide ((k:Int)<0)=false:=by simp
 go_enter Tryz.func44,Tryz.ntmps44
 go_wp2_with fail
 go_quiet (fail)
 go_wp2_with fail
 go_returns
 exact ⟨rfl,(H.out.kept (fun _=>rfl)).put,(kb_drewN b w _).trans (Kb.set _ _ _ _)⟩
set_option maxHeartbeats 1000000 in
theorem below_yes (b:Nat) (W:Wd) (k:Nat) (hk:k<6) (lim:Int) (hl:W.at k<lim) (w:World) (h:IsR w b W k):Calls Tryz.prog 43 #[.pointer (some ⟨b,0,none⟩),.int .u64 lim] w fun e w'=>e=.returned (.int .u64 (W.at k))/\IsR w' b W (k+1)/\Kb b w w':=by
 have WW:Hid (Calls Tryz.prog 44 #[.pointer (some ⟨b,0,none⟩)] w fun e w'=>e=.returned (.int .u64 (W.at k))/\IsR w' b W (k+1)/\Kb b w w'):=word_any b W k hk w h
 have IY:Hid (∀ w:World,Calls Tryz.prog 45 #[.bool true] w fun e w'=>e=.returned (.tuple #[])/\w'=w):=insist_yes
 clear h
 generalize W.at k=x at *
 have d1:decide (x<lim)=true:=by simp;omega
 go_enter Tryz.func43,Tryz.ntmps43
 go_wp2_with fail
 refine WW.out.mono ?_
 rintro e u ⟨rfl,h1,k1⟩
 have H1:Hid (IsR u b W (k+1)):=h1
 have K1:Hid (Kb b w u):=k1
 clear h1 k1
 go_wp2_with fail
 refine (IY.out _).mono ?_
 rintro e u2 ⟨rfl,hu⟩
 subst hu
 go_wp2_with fail
 go_returns
 exact ⟨rfl,H1.out,K1.out⟩
set_option maxHeartbeats 1000000 in
theorem number_yes (b:Nat) (W:Wd) (k:Nat) (hk:k<6) (hw:W.wf) (lim:Int) (h63:lim<=9223372036854775807) (hl:W.at k<lim) (w:World) (h:IsR w b W k):Calls Tryz.prog 37 #[.pointer (some ⟨b,0,none⟩),.int .u64 lim] w fun e w'=>e=.returned (.int .i64 (W.at k))/\IsR w' b W (k+1)/\Kb b w w':=by
 have BB:Hid (Calls Tryz.prog 43 #[.pointer (some ⟨b,0,none⟩),.int .u64 lim] w fun e w'=>e=.returned (.int .u64 (W.at k))/\IsR w' b W (k+1)/\Kb b w w'):=below_yes b W k hk lim hl w h
 have p0:=(hw k).1
 clear h hw
 generalize W.at k=x at *
 have ww:IntKind.i64.wrap x=x:=by rw [IntKind.wrap_i64];omega
 go_enter Tryz.func37,Tryz.ntmps37
 go_wp2_with fail
 refine BB.out.mono ?_
 rintro e u ⟨rfl,h1,k1⟩
 have H1:Hid (IsR u b W (k+1)):=h1
 have K1:Hid (Kb b w u):=k1
 clear h1 k1
 go_wp2_with fail
 go_returns
 exact ⟨rfl,H1.out,K1.out⟩
end Go.Proofs.YtlaiadheelgbdaaGreat.Ca
namespace Go.Proofs.YtlaiadheelgbdaaGreat.Ca
open Go.ChangeShapes Go.WideShapes Go.ChangeAt Go.RowKit Go.Maps
set_option linter.unusedSimpArgs false
set_option linter.unusedVariables false
set_option maxRecDepth 8000
theorem range_info:(Tryz.prog.info? 55).map (·.size)=some 2:=by kernel_rfl
theorem perm_info:(Tryz.prog.info? 57).map (·.size)=some 3:=by kernel_rfl
set_option maxHeartbeats 1000000 in
theorem page_yes (b:Nat) (W:Wd) (k:Nat) (hk:k+1<=6) (hw:W.wf) (hl:W.at k<34359738368) (w:World) (h:IsR w b W k):Calls Tryz.prog 42 #[.pointer (some ⟨b,0,none⟩)] w fun e w'=>e=.returned (.agg #[.int .i64 (W.at k),.int .i64 (W.at k+1)])/\IsR w' b W (k+1)/\Kb b w w':=by
 have N1:Hid (∀ w:World,IsR w b W (k)->Calls Tryz.prog 37 #[.pointer (some ⟨b,0,none⟩),.int .u64 34359738368] w fun e w'=>e=.returned (.int .i64 (W.at (k)))/\IsR w' b W (k+1)/\Kb b w w'):=fun w h=>number_yes b W (k) (by omega) hw 34359738368 (by omega) hl w h
 have H0:Hid (IsR w b W k):=h
 have lt0:=blk_lt h
 clear h
 have p0:=(hw k).1
 clear hw
 generalize W.at k=x at *
 have A0:Hid (IsR (w.alloc (.cells [.int .i64 0,.int .i64 0].toArray 55)) b W k):=H0.out.below (Go.Joins.below_alloc1 _ _)
 have Z0:Hid (Blk (w.alloc (.cells [.int .i64 0,.int .i64 0].toArray 55)) w.heap.size [.int .i64 0,.int .i64 0] 55):=Blk.made w _ _
 have K0:Hid (Kb b w (w.alloc (.cells [.int .i64 0,.int .i64 0].toArray 55))):=kb_alloc b w _
 go_enter Tryz.func42,Tryz.ntmps42
 go_wp2_with fail
 refine (N1.out _ A0.out).mono ?_
 rintro e u1 ⟨rfl,h1,k1⟩
 have A1:Hid (IsR u1 b W (k+1)):=h1
 have K1:Hid (Kb b w u1):=K0.out.trans k1
 have Z1:Hid (Blk u1 w.heap.size [.int .i64 0,.int .i64 0] 55):=Z0.out.kb k1 (by omega)
 clear h1 k1 A0 K0 Z0
 have yc0:u1.cell? ⟨w.heap.size,0,none⟩=some (.int .i64 0):=Z1.out.cell 0
 have yf0:u1.frozen? ⟨w.heap.size,0,none⟩=false:=Z1.out.free 0
 have yc1:u1.cell? ⟨w.heap.size,1,none⟩=some (.int .i64 0):=Z1.out.cell 1
 have yf1:u1.frozen? ⟨w.heap.size,1,none⟩=false:=Z1.out.free 1
 have y4:w.heap.size<u1.heap.size:=blk_lt Z1.out
 go_wp2_with fail
 change bodyPost _ _ _ _ _ (u1.setCells w.heap.size 0 [.int .i64 x,.int .i64 (x+1)])
 have hr:=run_loadVar_mid (P:=Tryz.prog) (u1.setCells w.heap.size 0 [.int .i64 x,.int .i64 (x+1)]) w.heap.size 0 55 [.int .i64 x,.int .i64 (x+1)] _ (World.rangeAt_setCells_same _ w.heap.size 0 [.int .i64 x,.int .i64 (x+1)] (show u1.there w.heap.size 0 2 from Z1.out.there)) Tryz.underlying55 rfl range_info
 refine bodyPost_ret (v:=.agg #[.int .i64 x,.int .i64 (x+1)]) ?_ rfl ⟨rfl,A1.out.scs (by omega) _ _,kb_scs K1.out (Nat.le_refl _) _ _⟩
 exact results_one Tryz.results42 _ _ _ _ _ rfl hr
def pagesOk (a n:Int):Prop:=a<34359738368/\n<65537/\0<n/\a+n<=34359738368
instance (a n:Int):Decidable (pagesOk a n):=by unfold pagesOk;infer_instance
set_option maxHeartbeats 1000000 in
theorem pages_yes (b:Nat) (W:Wd) (k:Nat) (hk:k+2<=6) (hw:W.wf) (hl:pagesOk (W.at k) (W.at (k+1))) (w:World) (h:IsR w b W k):Calls Tryz.prog 38 #[.pointer (some ⟨b,0,none⟩)] w fun e w'=>e=.returned (.agg #[.int .i64 (W.at k),.int .i64 (W.at k+W.at (k+1))])/\IsR w' b W (k+2)/\Kb b w w':=by
 obtain ⟨l1,l2,l3,l4⟩:=hl
 have N1:Hid (∀ w:World,IsR w b W (k)->Calls Tryz.prog 37 #[.pointer (some ⟨b,0,none⟩),.int .u64 34359738368] w fun e w'=>e=.returned (.int .i64 (W.at (k)))/\IsR w' b W (k+1)/\Kb b w w'):=fun w h=>number_yes b W (k) (by omega) hw 34359738368 (by omega) l1 w h
 have N2:Hid (∀ w:World,IsR w b W (k+1)->Calls Tryz.prog 37 #[.pointer (some ⟨b,0,none⟩),.int .u64 65537] w fun e w'=>e=.returned (.int .i64 (W.at (k+1)))/\IsR w' b W (k+1+1)/\Kb b w w'):=fun w h=>number_yes b W (k+1) (by omega) hw 65537 (by omega) l2 w h
 have IY:Hid (∀ w:World,Calls Tryz.prog 45 #[.bool true] w fun e w'=>e=.returned (.tuple #[])/\w'=w):=insist_yes
 have H0:Hid (IsR w b W k):=h
 have lt0:=blk_lt h
 clear h
 have p0:=(hw k).1
 have p1:=(hw (k+1)).1
 clear hw
 generalize W.at k=x at *
 generalize W.at (k+1)=y at *
 have d1:decide (0<y)=true:=by simp;omega
 have d2:decide (x+y<=34359738368)=true:=by simp;omega
 have A0:Hid (IsR (w.alloc (.cells [.int .i64 0,.int .i64 0].toArray 55)) b W k):=H0.out.below (Go.Joins.below_alloc1 _ _)
 have Z0:Hid (Blk (w.alloc (.cells [.int .i64 0,.int .i64 0].toArray 55)) w.heap.size [.int .i64 0,.int .i64 0] 55):=Blk.made w _ _
 have K0:Hid (Kb b w (w.alloc (.cells [.int .i64 0,.int .i64 0].toArray 55))):=kb_alloc b w _
 go_enter Tryz.func38,Tryz.ntmps38
 go_wp2_with fail
 refine (N1.out _ A0.out).mono ?_
 rintro e u1 ⟨rfl,h1,k1⟩
 have A1:Hid (IsR u1 b W (k+1)):=h1
 have K1:Hid (Kb b w u1):=K0.out.trans k1
 have Z1:Hid (Blk u1 w.heap.size [.int .i64 0,.int .i64 0] 55):=Z0.out.kb k1 (by omega)
 clear h1 k1 A0 K0 Z0
 go_wp2_with fail
 refine (N2.out _ A1.out).mono ?_
 rintro e u2 ⟨rfl,h1,k1⟩
 have A2:Hid (IsR u2 b W (k+1+1)):=h1
 have K2:Hid (Kb b w u2):=K1.out.trans k1
 have Z2:Hid (Blk u2 w.heap.size [.int .i64 0,.int .i64 0] 55):=Z1.out.kb k1 (by omega)
 clear h1 k1 A1 K1 Z1
 have yc0:u2.cell? ⟨w.heap.size,0,none⟩=some (.int .i64 0):=Z2.out.cell 0
 have yf0:u2.frozen? ⟨w.heap.size,0,none⟩=false:=Z2.out.free 0
 have yc1:u2.cell? ⟨w.heap.size,1,none⟩=some (.int .i64 0):=Z2.out.cell 1
 have yf1:u2.frozen? ⟨w.heap.size,1,none⟩=false:=Z2.out.free 1
 have y4:w.heap.size<u2.heap.size:=blk_lt Z2.out
 go_wp2_with fail
 refine (IY.out _).mono ?_
 rintro e u8 ⟨rfl,hu⟩
 have hu2:=hu.symm
 subst hu2
 go_wp2_with fail
 change bodyPost _ _ _ _ _ (u2.setCells w.heap.size 0 [.int .i64 x,.int .i64 (x+y)])
 have hr:=run_loadVar_mid (P:=Tryz.prog) (u2.setCells w.heap.size 0 [.int .i64 x,.int .i64 (x+y)]) w.heap.size 0 55 [.int .i64 x,.int .i64 (x+y)] _ (World.rangeAt_setCells_same _ w.heap.size 0 [.int .i64 x,.int .i64 (x+y)] (show u2.there w.heap.size 0 2 from Z2.out.there)) Tryz.underlying55 rfl range_info
 refine bodyPost_ret (v:=.agg #[.int .i64 x,.int .i64 (x+y)]) ?_ rfl ⟨rfl,A2.out.scs (by omega) _ _,kb_scs K2.out (Nat.le_refl _) _ _⟩
 exact results_one Tryz.results38 _ _ _ _ _ rfl hr
def permW (x:Int):Bool:=decide (x % 2=1)
def permX (x:Int):Bool:=decide (2<=x)
set_option maxHeartbeats 1000000 in
theorem perm_yes (b:Nat) (W:Wd) (k:Nat) (hk:k+1<=6) (hw:W.wf) (hl:W.at k<4) (w:World) (h:IsR w b W k):Calls Tryz.prog 39 #[.pointer (some ⟨b,0,none⟩)] w fun e w'=>e=.returned (.agg #[.bool (permW (W.at k)),.bool true,.bool (permX (W.at k))])/\IsR w' b W (k+1)/\Kb b w w':=by
 have N1:Hid (∀ w:World,IsR w b W (k)->Calls Tryz.prog 43 #[.pointer (some ⟨b,0,none⟩),.int .u64 4] w fun e w'=>e=.returned (.int .u64 (W.at (k)))/\IsR w' b W (k+1)/\Kb b w w'):=fun w h=>below_yes b W (k) (by omega) 4 hl w h
 have H0:Hid (IsR w b W k):=h
 have lt0:=blk_lt h
 clear h
 have p0:=(hw k).1
 clear hw
 generalize W.at k=x at *
 have A0:Hid (IsR (w.alloc (.cells [.bool false,.bool false,.bool false].toArray 57)) b W k):=H0.out.below (Go.Joins.below_alloc1 _ _)
 have Z0:Hid (Blk (w.alloc (.cells [.bool false,.bool false,.bool false].toArray 57)) w.heap.size [.bool false,.bool false,.bool false] 57):=Blk.made w _ _
 have K0:Hid (Kb b w (w.alloc (.cells [.bool false,.bool false,.bool false].toArray 57))):=kb_alloc b w _
 have hx:x=0\/x=1\/x=2\/x=3:=by omega
 rcases hx with rfl | rfl | rfl | rfl
 . go_enter Tryz.func39,Tryz.ntmps39
   go_wp2_with fail
   refine (N1.out _ A0.out).mono ?_
   rintro e u1 ⟨rfl,h1,k1⟩
   have A1:Hid (IsR u1 b W (k+1)):=h1
   have K1:Hid (Kb b w u1):=K0.out.trans k1
   have Z1:Hid (Blk u1 w.heap.size [.bool false,.bool false,.bool false] 57):=Z0.out.kb k1 (by omega)
   clear h1 k1 A0 K0 Z0
   have yc0:u1.cell? ⟨w.heap.size,0,none⟩=some (.bool false):=Z1.out.cell 0
   have yf0:u1.frozen? ⟨w.heap.size,0,none⟩=false:=Z1.out.free 0
   have yc1:u1.cell? ⟨w.heap.size,1,none⟩=some (.bool false):=Z1.out.cell 1
   have yf1:u1.frozen? ⟨w.heap.size,1,none⟩=false:=Z1.out.free 1
   have yc2:u1.cell? ⟨w.heap.size,2,none⟩=some (.bool false):=Z1.out.cell 2
   have yf2:u1.frozen? ⟨w.heap.size,2,none⟩=false:=Z1.out.free 2
   have y4:w.heap.size<u1.heap.size:=blk_lt Z1.out
   go_wp2_with fail
   change bodyPost _ _ _ _ _ (u1.setCells w.heap.size 0 [.bool false,.bool true,.bool false])
   have hr:=run_loadVar_mid (P:=Tryz.prog) (u1.setCells w.heap.size 0 [.bool false,.bool true,.bool false]) w.heap.size 0 57 [.bool false,.bool true,.bool false] _ (World.rangeAt_setCells_same _ w.heap.size 0 [.bool false,.bool true,.bool false] (show u1.there w.heap.size 0 3 from Z1.out.there)) Tryz.underlying57 rfl perm_info
   refine bodyPost_ret (v:=.agg #[.bool false,.bool true,.bool false]) ?_ rfl ⟨rfl,A1.out.scs (by omega) _ _,kb_scs K1.out (Nat.le_refl _) _ _⟩
   exact results_one Tryz.results39 _ _ _ _ _ rfl hr
 . go_enter Tryz.func39,Tryz.ntmps39
   go_wp2_with fail
   refine (N1.out _ A0.out).mono ?_
   rintro e u1 ⟨rfl,h1,k1⟩
   have A1:Hid (IsR u1 b W (k+1)):=h1
   have K1:Hid (Kb b w u1):=K0.out.trans k1
   have Z1:Hid (Blk u1 w.heap.size [.bool false,.bool false,.bool false] 57):=Z0.out.kb k1 (by omega)
   clear h1 k1 A0 K0 Z0
   have yc0:u1.cell? ⟨w.heap.size,0,none⟩=some (.bool false):=Z1.out.cell 0
   have yf0:u1.frozen? ⟨w.heap.size,0,none⟩=false:=Z1.out.free 0
   have yc1:u1.cell? ⟨w.heap.size,1,none⟩=some (.bool false):=Z1.out.cell 1
   have yf1:u1.frozen? ⟨w.heap.size,1,none⟩=false:=Z1.out.free 1
   have yc2:u1.cell? ⟨w.heap.size,2,none⟩=some (.bool false):=Z1.out.cell 2
   have yf2:u1.frozen? ⟨w.heap.size,2,none⟩=false:=Z1.out.free 2
   have y4:w.heap.size<u1.heap.size:=blk_lt Z1.out
   go_wp2_with fail
   change bodyPost _ _ _ _ _ (u1.setCells w.heap.size 0 [.bool true,.bool true,.bool false])
   have hr:=run_loadVar_mid (P:=Tryz.prog) (u1.setCells w.heap.size 0 [.bool true,.bool true,.bool false]) w.heap.size 0 57 [.bool true,.bool true,.bool false] _ (World.rangeAt_setCells_same _ w.heap.size 0 [.bool true,.bool true,.bool false] (show u1.there w.heap.size 0 3 from Z1.out.there)) Tryz.underlying57 rfl perm_info
   refine bodyPost_ret (v:=.agg #[.bool true,.bool true,.bool false]) ?_ rfl ⟨rfl,A1.out.scs (by omega) _ _,kb_scs K1.out (Nat.le_refl _) _ _⟩
   exact results_one Tryz.results39 _ _ _ _ _ rfl hr
 . go_enter Tryz.func39,Tryz.ntmps39
   go_wp2_with fail
   refine (N1.out _ A0.out).mono ?_
   rintro e u1 ⟨rfl,h1,k1⟩
   have A1:Hid (IsR u1 b W (k+1)):=h1
   have K1:Hid (Kb b w u1):=K0.out.trans k1
   have Z1:Hid (Blk u1 w.heap.size [.bool false,.bool false,.bool false] 57):=Z0.out.kb k1 (by omega)
   clear h1 k1 A0 K0 Z0
   have yc0:u1.cell? ⟨w.heap.size,0,none⟩=some (.bool false):=Z1.out.cell 0
   have yf0:u1.frozen? ⟨w.heap.size,0,none⟩=false:=Z1.out.free 0
   have yc1:u1.cell? ⟨w.heap.size,1,none⟩=some (.bool false):=Z1.out.cell 1
   have yf1:u1.frozen? ⟨w.heap.size,1,none⟩=false:=Z1.out.free 1
   have yc2:u1.cell? ⟨w.heap.size,2,none⟩=some (.bool false):=Z1.out.cell 2
   have yf2:u1.frozen? ⟨w.heap.size,2,none⟩=false:=Z1.out.free 2
   have y4:w.heap.size<u1.heap.size:=blk_lt Z1.out
   go_wp2_with fail
   change bodyPost _ _ _ _ _ (u1.setCells w.heap.size 0 [.bool false,.bool true,.bool true])
   have hr:=run_loadVar_mid (P:=Tryz.prog) (u1.setCells w.heap.size 0 [.bool false,.bool true,.bool true]) w.heap.size 0 57 [.bool false,.bool true,.bool true] _ (World.rangeAt_setCells_same _ w.heap.size 0 [.bool false,.bool true,.bool true] (show u1.there w.heap.size 0 3 from Z1.out.there)) Tryz.underlying57 rfl perm_info
   refine bodyPost_ret (v:=.agg #[.bool false,.bool true,.bool true]) ?_ rfl ⟨rfl,A1.out.scs (by omega) _ _,kb_scs K1.out (Nat.le_refl _) _ _⟩
   exact results_one Tryz.results39 _ _ _ _ _ rfl hr
 . go_enter Tryz.func39,Tryz.ntmps39
   go_wp2_with fail
   refine (N1.out _ A0.out).mono ?_
   rintro e u1 ⟨rfl,h1,k1⟩
   have A1:Hid (IsR u1 b W (k+1)):=h1
   have K1:Hid (Kb b w u1):=K0.out.trans k1
   have Z1:Hid (Blk u1 w.heap.size [.bool false,.bool false,.bool false] 57):=Z0.out.kb k1 (by omega)
   clear h1 k1 A0 K0 Z0
   have yc0:u1.cell? ⟨w.heap.size,0,none⟩=some (.bool false):=Z1.out.cell 0
   have yf0:u1.frozen? ⟨w.heap.size,0,none⟩=false:=Z1.out.free 0
   have yc1:u1.cell? ⟨w.heap.size,1,none⟩=some (.bool false):=Z1.out.cell 1
   have yf1:u1.frozen? ⟨w.heap.size,1,none⟩=false:=Z1.out.free 1
   have yc2:u1.cell? ⟨w.heap.size,2,none⟩=some (.bool false):=Z1.out.cell 2
   have yf2:u1.frozen? ⟨w.heap.size,2,none⟩=false:=Z1.out.free 2
   have y4:w.heap.size<u1.heap.size:=blk_lt Z1.out
   go_wp2_with fail
   change bodyPost _ _ _ _ _ (u1.setCells w.heap.size 0 [.bool true,.bool true,.bool true])
   have hr:=run_loadVar_mid (P:=Tryz.prog) (u1.setCells w.heap.size 0 [.bool true,.bool true,.bool true]) w.heap.size 0 57 [.bool true,.bool true,.bool true] _ (World.rangeAt_setCells_same _ w.heap.size 0 [.bool true,.bool true,.bool true] (show u1.there w.heap.size 0 3 from Z1.out.there)) Tryz.underlying57 rfl perm_info
   refine bodyPost_ret (v:=.agg #[.bool true,.bool true,.bool true]) ?_ rfl ⟨rfl,A1.out.scs (by omega) _ _,kb_scs K1.out (Nat.le_refl _) _ _⟩
   exact results_one Tryz.results39 _ _ _ _ _ rfl hr
end Go.Proofs.YtlaiadheelgbdaaGreat.Ca
namespace Go.Proofs.YtlaiadheelgbdaaGreat.Ca
open Go.ChangeShapes Go.WideShapes Go.ChangeAt Go.RowKit Go.Maps
set_option linter.unusedSimpArgs false
set_option linter.unusedVariables false
set_option maxRecDepth 8000
def spotOk (a s:Int):Prop:=a<140737488355328/\(s=1\/s=2\/s=4\/s=8)/\a % s=0
instance (a s:Int):Decidable (spotOk a s):=by unfold spotOk;infer_instance
set_option maxHeartbeats 1000000 in
theorem place_yes (b:Nat) (W:Wd) (k:Nat) (hk:k+2<=6) (hw:W.wf) (hl:spotOk (W.at k) (W.at (k+1))) (w:World) (h:IsR w b W k):Calls Tryz.prog 40 #[.pointer (some ⟨b,0,none⟩)] w fun e w'=>e=.returned (.tuple #[.int .u64 (W.at k),.int .i64 (W.at (k+1))])/\IsR w' b W (k+2)/\Kb b w w':=by
 obtain ⟨l1,l2,l3⟩:=hl
 have N1:Hid (∀ w:World,IsR w b W (k)->Calls Tryz.prog 43 #[.pointer (some ⟨b,0,none⟩),.int .u64 140737488355328] w fun e w'=>e=.returned (.int .u64 (W.at (k)))/\IsR w' b W (k+1)/\Kb b w w'):=fun w h=>below_yes b W (k) (by omega) 140737488355328 l1 w h
 have N2:Hid (∀ w:World,IsR w b W (k+1)->Calls Tryz.prog 37 #[.pointer (some ⟨b,0,none⟩),.int .u64 9] w fun e w'=>e=.returned (.int .i64 (W.at (k+1)))/\IsR w' b W (k+1+1)/\Kb b w w'):=fun w h=>number_yes b W (k+1) (by omega) hw 9 (by omega) (by omega) w h
 have IY:Hid (∀ w:World,Calls Tryz.prog 45 #[.bool true] w fun e w'=>e=.returned (.tuple #[])/\w'=w):=insist_yes
 have H0:Hid (IsR w b W k):=h
 have lt0:=blk_lt h
 clear h
 have K0:Hid (Kb b w w):=Kb.refl _ _
 have A0:Hid (IsR w b W k):=H0.out
 have p0:=(hw k).1
 clear hw
 generalize W.at k=x at *
 generalize W.at (k+1)=y at *
 rcases l2 with rfl | rfl | rfl | rfl
 . have t1:x.tmod 1=0:=by rw [Int.tmod_eq_emod_of_nonneg p0];exact l3
   go_enter Tryz.func40,Tryz.ntmps40
   go_wp2_with fail
   refine (N1.out _ A0.out).mono ?_
   rintro e u1 ⟨rfl,h1,k1⟩
   have A1:Hid (IsR u1 b W (k+1)):=h1
   have K1:Hid (Kb b w u1):=K0.out.trans k1
   clear h1 k1 A0 K0
   go_wp2_with fail
   refine (N2.out _ A1.out).mono ?_
   rintro e u2 ⟨rfl,h1,k1⟩
   have A2:Hid (IsR u2 b W (k+1+1)):=h1
   have K2:Hid (Kb b w u2):=K1.out.trans k1
   clear h1 k1 A1 K1
   go_wp2_with fail
   refine (IY.out _).mono ?_
   rintro e u8 ⟨rfl,hu⟩
   have hu2:=hu.symm
   subst hu2
   go_wp2_with fail
   refine (IY.out _).mono ?_
   rintro e u8 ⟨rfl,hu⟩
   have hu2:=hu.symm
   subst hu2
   go_wp2_with fail
   go_returns
   exact ⟨rfl,A2.out,K2.out⟩
 . have t1:x.tmod 2=0:=by rw [Int.tmod_eq_emod_of_nonneg p0];exact l3
   go_enter Tryz.func40,Tryz.ntmps40
   go_wp2_with fail
   refine (N1.out _ A0.out).mono ?_
   rintro e u1 ⟨rfl,h1,k1⟩
   have A1:Hid (IsR u1 b W (k+1)):=h1
   have K1:Hid (Kb b w u1):=K0.out.trans k1
   clear h1 k1 A0 K0
   go_wp2_with fail
   refine (N2.out _ A1.out).mono ?_
   rintro e u2 ⟨rfl,h1,k1⟩
   have A2:Hid (IsR u2 b W (k+1+1)):=h1
   have K2:Hid (Kb b w u2):=K1.out.trans k1
   clear h1 k1 A1 K1
   go_wp2_with fail
   refine (IY.out _).mono ?_
   rintro e u8 ⟨rfl,hu⟩
   have hu2:=hu.symm
   subst hu2
   go_wp2_with fail
   refine (IY.out _).mono ?_
   rintro e u8 ⟨rfl,hu⟩
   have hu2:=hu.symm
   subst hu2
   go_wp2_with fail
   go_returns
   exact ⟨rfl,A2.out,K2.out⟩
 . have t1:x.tmod 4=0:=by rw [Int.tmod_eq_emod_of_nonneg p0];exact l3
   go_enter Tryz.func40,Tryz.ntmps40
   go_wp2_with fail
   refine (N1.out _ A0.out).mono ?_
   rintro e u1 ⟨rfl,h1,k1⟩
   have A1:Hid (IsR u1 b W (k+1)):=h1
   have K1:Hid (Kb b w u1):=K0.out.trans k1
   clear h1 k1 A0 K0
   go_wp2_with fail
   refine (N2.out _ A1.out).mono ?_
   rintro e u2 ⟨rfl,h1,k1⟩
   have A2:Hid (IsR u2 b W (k+1+1)):=h1
   have K2:Hid (Kb b w u2):=K1.out.trans k1
   clear h1 k1 A1 K1
   go_wp2_with fail
   refine (IY.out _).mono ?_
   rintro e u8 ⟨rfl,hu⟩
   have hu2:=hu.symm
   subst hu2
   go_wp2_with fail
   refine (IY.out _).mono ?_
   rintro e u8 ⟨rfl,hu⟩
   have hu2:=hu.symm
   subst hu2
   go_wp2_with fail
   go_returns
   exact ⟨rfl,A2.out,K2.out⟩
 . have t1:x.tmod 8=0:=by rw [Int.tmod_eq_emod_of_nonneg p0];exact l3
   go_enter Tryz.func40,Tryz.ntmps40
   go_wp2_with fail
   refine (N1.out _ A0.out).mono ?_
   rintro e u1 ⟨rfl,h1,k1⟩
   have A1:Hid (IsR u1 b W (k+1)):=h1
   have K1:Hid (Kb b w u1):=K0.out.trans k1
   clear h1 k1 A0 K0
   go_wp2_with fail
   refine (N2.out _ A1.out).mono ?_
   rintro e u2 ⟨rfl,h1,k1⟩
   have A2:Hid (IsR u2 b W (k+1+1)):=h1
   have K2:Hid (Kb b w u2):=K1.out.trans k1
   clear h1 k1 A1 K1
   go_wp2_with fail
   refine (IY.out _).mono ?_
   rintro e u8 ⟨rfl,hu⟩
   have hu2:=hu.symm
   subst hu2
   go_wp2_with fail
   refine (IY.out _).mono ?_
   rintro e u8 ⟨rfl,hu⟩
   have hu2:=hu.symm
   subst hu2
   go_wp2_with fail
   go_returns
   exact ⟨rfl,A2.out,K2.out⟩
set_option maxHeartbeats 1000000 in
theorem sized_yes1 (b:Nat) (W:Wd) (k:Nat) (hk:k+1<=6) (hw:W.wf) (hl:W.at k<256) (w:World) (h:IsR w b W k):Calls Tryz.prog 41 #[.pointer (some ⟨b,0,none⟩),.int .i64 1] w fun e w'=>e=.returned (.int .u64 (W.at k))/\IsR w' b W (k+1)/\Kb b w w':=by
 have N1:Hid (∀ w:World,IsR w b W k->Calls Tryz.prog 44 #[.pointer (some ⟨b,0,none⟩)] w fun e w'=>e=.returned (.int .u64 (W.at k))/\IsR w' b W (k+1)/\Kb b w w'):=fun w h=>word_any b W k (by omega) w h
 have IY:Hid (∀ w:World,Calls Tryz.prog 45 #[.bool true] w fun e w'=>e=.returned (.tuple #[])/\w'=w):=insist_yes
 have H0:Hid (IsR w b W k):=h
 have lt0:=blk_lt h
 clear h
 have K0:Hid (Kb b w w):=Kb.refl _ _
 have A0:Hid (IsR w b W k):=H0.out
 have p0:=(hw k).1
 have p1:=(hw k).2
 clear hw
 generalize W.at k=x at *
 go_enter Tryz.func41,Tryz.ntmps41
 go_wp2_with fail
 refine (N1.out _ A0.out).mono ?_
 rintro e u1 ⟨rfl,h1,k1⟩
 have A1:Hid (IsR u1 b W (k+1)):=h1
 have K1:Hid (Kb b w u1):=K0.out.trans k1
 clear h1 k1 A0 K0
 have sh:x / 256=0:=Int.ediv_eq_zero_of_lt p0 (by omega)
 go_wp2_with fail
 refine (IY.out _).mono ?_
 rintro e u8 ⟨rfl,hu⟩
 have hu2:=hu.symm
 subst hu2
 go_wp2_with fail
 go_returns
 exact ⟨rfl,A1.out,K1.out⟩
set_option maxHeartbeats 1000000 in
theorem sized_yes2 (b:Nat) (W:Wd) (k:Nat) (hk:k+1<=6) (hw:W.wf) (hl:W.at k<65536) (w:World) (h:IsR w b W k):Calls Tryz.prog 41 #[.pointer (some ⟨b,0,none⟩),.int .i64 2] w fun e w'=>e=.returned (.int .u64 (W.at k))/\IsR w' b W (k+1)/\Kb b w w':=by
 have N1:Hid (∀ w:World,IsR w b W k->Calls Tryz.prog 44 #[.pointer (some ⟨b,0,none⟩)] w fun e w'=>e=.returned (.int .u64 (W.at k))/\IsR w' b W (k+1)/\Kb b w w'):=fun w h=>word_any b W k (by omega) w h
 have IY:Hid (∀ w:World,Calls Tryz.prog 45 #[.bool true] w fun e w'=>e=.returned (.tuple #[])/\w'=w):=insist_yes
 have H0:Hid (IsR w b W k):=h
 have lt0:=blk_lt h
 clear h
 have K0:Hid (Kb b w w):=Kb.refl _ _
 have A0:Hid (IsR w b W k):=H0.out
 have p0:=(hw k).1
 have p1:=(hw k).2
 clear hw
 generalize W.at k=x at *
 go_enter Tryz.func41,Tryz.ntmps41
 go_wp2_with fail
 refine (N1.out _ A0.out).mono ?_
 rintro e u1 ⟨rfl,h1,k1⟩
 have A1:Hid (IsR u1 b W (k+1)):=h1
 have K1:Hid (Kb b w u1):=K0.out.trans k1
 clear h1 k1 A0 K0
 have sh:x / 65536=0:=Int.ediv_eq_zero_of_lt p0 (by omega)
 go_wp2_with fail
 refine (IY.out _).mono ?_
 rintro e u8 ⟨rfl,hu⟩
 have hu2:=hu.symm
 subst hu2
 go_wp2_with fail
 go_returns
 exact ⟨rfl,A1.out,K1.out⟩
set_option maxHeartbeats 1000000 in
theorem sized_yes4 (b:Nat) (W:Wd) (k:Nat) (hk:k+1<=6) (hw:W.wf) (hl:W.at k<4294967296) (w:World) (h:IsR w b W k):Calls Tryz.prog 41 #[.pointer (some ⟨b,0,none⟩),.int .i64 4] w fun e w'=>e=.returned (.int .u64 (W.at k))/\IsR w' b W (k+1)/\Kb b w w':=by
 have N1:Hid (∀ w:World,IsR w b W k->Calls Tryz.prog 44 #[.pointer (some ⟨b,0,none⟩)] w fun e w'=>e=.returned (.int .u64 (W.at k))/\IsR w' b W (k+1)/\Kb b w w'):=fun w h=>word_any b W k (by omega) w h
 have IY:Hid (∀ w:World,Calls Tryz.prog 45 #[.bool true] w fun e w'=>e=.returned (.tuple #[])/\w'=w):=insist_yes
 have H0:Hid (IsR w b W k):=h
 have lt0:=blk_lt h
 clear h
 have K0:Hid (Kb b w w):=Kb.refl _ _
 have A0:Hid (IsR w b W k):=H0.out
 have p0:=(hw k).1
 have p1:=(hw k).2
 clear hw
 generalize W.at k=x at *
 go_enter Tryz.func41,Tryz.ntmps41
 go_wp2_with fail
 refine (N1.out _ A0.out).mono ?_
 rintro e u1 ⟨rfl,h1,k1⟩
 have A1:Hid (IsR u1 b W (k+1)):=h1
 have K1:Hid (Kb b w u1):=K0.out.trans k1
 clear h1 k1 A0 K0
 have sh:x / 4294967296=0:=Int.ediv_eq_zero_of_lt p0 (by omega)
 go_wp2_with fail
 refine (IY.out _).mono ?_
 rintro e u8 ⟨rfl,hu⟩
 have hu2:=hu.symm
 subst hu2
 go_wp2_with fail
 go_returns
 exact ⟨rfl,A1.out,K1.out⟩
set_option maxHeartbeats 1000000 in
theorem sized_yes8 (b:Nat) (W:Wd) (k:Nat) (hk:k+1<=6) (hw:W.wf) (hl:W.at k<18446744073709551616) (w:World) (h:IsR w b W k):Calls Tryz.prog 41 #[.pointer (some ⟨b,0,none⟩),.int .i64 8] w fun e w'=>e=.returned (.int .u64 (W.at k))/\IsR w' b W (k+1)/\Kb b w w':=by
 have N1:Hid (∀ w:World,IsR w b W k->Calls Tryz.prog 44 #[.pointer (some ⟨b,0,none⟩)] w fun e w'=>e=.returned (.int .u64 (W.at k))/\IsR w' b W (k+1)/\Kb b w w'):=fun w h=>word_any b W k (by omega) w h
 have IY:Hid (∀ w:World,Calls Tryz.prog 45 #[.bool true] w fun e w'=>e=.returned (.tuple #[])/\w'=w):=insist_yes
 have H0:Hid (IsR w b W k):=h
 have lt0:=blk_lt h
 clear h
 have K0:Hid (Kb b w w):=Kb.refl _ _
 have A0:Hid (IsR w b W k):=H0.out
 have p0:=(hw k).1
 have p1:=(hw k).2
 clear hw
 generalize W.at k=x at *
 go_enter Tryz.func41,Tryz.ntmps41
 go_wp2_with fail
 refine (N1.out _ A0.out).mono ?_
 rintro e u1 ⟨rfl,h1,k1⟩
 have A1:Hid (IsR u1 b W (k+1)):=h1
 have K1:Hid (Kb b w u1):=K0.out.trans k1
 clear h1 k1 A0 K0
 have sh:x / 18446744073709551616=0:=Int.ediv_eq_zero_of_lt p0 (by omega)
 go_wp2_with fail
 refine (IY.out _).mono ?_
 rintro e u8 ⟨rfl,hu⟩
 have hu2:=hu.symm
 subst hu2
 go_wp2_with fail
 go_returns
 exact ⟨rfl,A1.out,K1.out⟩
end Go.Proofs.YtlaiadheelgbdaaGreat.Ca
namespace Go.Proofs.YtlaiadheelgbdaaGreat.Ca
open Go.ChangeShapes Go.WideShapes Go.ChangeAt Go.RowKit Go.Maps
set_option linter.unusedSimpArgs false
set_option linter.unusedVariables false
set_option maxRecDepth 8000
structure Cl where
 op:Int
 fr:Int
 til:Int
 pw:Bool
 pu:Bool
 px:Bool
 ad:Int
 sz:Int
 x:Int
 id:Int
 a:Int
 b:Int
 d:Int
abbrev Cl.val (c:Cl):Value:=.agg #[.int .i64 c.op,.int .i64 c.fr,.int .i64 c.til,.bool c.pw,.bool c.pu,.bool c.px,.int .u64 c.ad,.int .i64 c.sz,.int .u64 c.x,.int .i64 c.id,.int .i64 c.a,.int .i64 c.b,.int .i64 c.d]
def Cl.zero:Cl:=⟨0,0,0,false,false,false,0,0,0,0,0,0,0⟩
theorem call_info:(Tryz.prog.info? 59).map (·.size)=some 13:=by kernel_rfl
set_option maxHeartbeats 4000000 in
theorem call11 (b:Nat) (W:Wd) (hw:W.wf) (h0:W.at 0=11) (w:World) (h:IsR w b W 0):Calls Tryz.prog 24 #[.pointer (some ⟨b,0,none⟩)] w fun e w'=>e=.returned (Cl.val ⟨11,0,0,false,false,false,0,0,0,0,0,0,0⟩)/\IsR w' b W 1/\Kb b w w':=by
 have N0:Hid (∀ w:World,IsR w b W (0)->Calls Tryz.prog 37 #[.pointer (some ⟨b,0,none⟩),.int .u64 17] w fun e w'=>e=.returned (.int .i64 (W.at (0)))/\IsR w' b W (0+1)/\Kb b w w'):=fun w h=>number_yes b W (0) (by omega) hw 17 (by omega) (by omega) w h
 rw [h0] at N0
 have H0:Hid (IsR w b W 0):=h
 have lt0:=blk_lt h
 clear h hw h0
 have A0:Hid (IsR (w.alloc (.cells [.int .i64 0,.int .i64 0,.int .i64 0,.bool false,.bool false,.bool false,.int .u64 0,.int .i64 0,.int .u64 0,.int .i64 0,.int .i64 0,.int .i64 0,.int .i64 0].toArray 59)) b W 0):=H0.out.below (Go.Joins.below_alloc1 _ _)
 have Z0:Hid (Blk (w.alloc (.cells [.int .i64 0,.int .i64 0,.int .i64 0,.bool false,.bool false,.bool false,.int .u64 0,.int .i64 0,.int .u64 0,.int .i64 0,.int .i64 0,.int .i64 0,.int .i64 0].toArray 59)) w.heap.size [.int .i64 0,.int .i64 0,.int .i64 0,.bool false,.bool false,.bool false,.int .u64 0,.int .i64 0,.int .u64 0,.int .i64 0,.int .i64 0,.int .i64 0,.int .i64 0] 59):=Blk.made w _ _
 have K0:Hid (Kb b w (w.alloc (.cells [.int .i64 0,.int .i64 0,.int .i64 0,.bool false,.bool false,.bool false,.int .u64 0,.int .i64 0,.int .u64 0,.int .i64 0,.int .i64 0,.int .i64 0,.int .i64 0].toArray 59))):=kb_alloc b w _
 go_enter Tryz.func24,Tryz.ntmps24
 go_wp2_with fail
 refine (N0.out _ A0.out).mono ?_
 rintro e u1 ⟨rfl,h1,k1⟩
 have A1:Hid (IsR u1 b W 1):=h1
 have K1:Hid (Kb b w u1):=K0.out.trans k1
 have Z1:Hid (Blk u1 w.heap.size [.int .i64 0,.int .i64 0,.int .i64 0,.bool false,.bool false,.bool false,.int .u64 0,.int .i64 0,.int .u64 0,.int .i64 0,.int .i64 0,.int .i64 0,.int .i64 0] 59):=Z0.out.kb k1 (by omega)
 clear h1 k1 A0 K0 Z0
 have y4:w.heap.size<u1.heap.size:=blk_lt Z1.out
 go_upto_region 40 with fail
 have AV:Hid (IsR (u1.alloc (.cells #[.int .i64 11,.int .i64 0,.int .i64 0,.bool false,.bool false,.bool false,.int .u64 0,.int .i64 0,.int .u64 0,.int .i64 0,.int .i64 0,.int .i64 0,.int .i64 0] 59)) b W 1):=A1.out.below (Go.Joins.below_alloc1 _ _)
 have KV:Hid (Kb b w (u1.alloc (.cells #[.int .i64 11,.int .i64 0,.int .i64 0,.bool false,.bool false,.bool false,.int .u64 0,.int .i64 0,.int .u64 0,.int .i64 0,.int .i64 0,.int .i64 0,.int .i64 0] 59))):=K1.out.trans (kb_alloc b u1 _)
 have ZR:Hid (Blk (u1.alloc (.cells #[.int .i64 11,.int .i64 0,.int .i64 0,.bool false,.bool false,.bool false,.int .u64 0,.int .i64 0,.int .u64 0,.int .i64 0,.int .i64 0,.int .i64 0,.int .i64 0] 59)) w.heap.size [.int .i64 0,.int .i64 0,.int .i64 0,.bool false,.bool false,.bool false,.int .u64 0,.int .i64 0,.int .u64 0,.int .i64 0,.int .i64 0,.int .i64 0,.int .i64 0] 59):=Z1.out.below (Go.Joins.below_alloc1 _ _)
 have ZV:Hid (Blk (u1.alloc (.cells #[.int .i64 11,.int .i64 0,.int .i64 0,.bool false,.bool false,.bool false,.int .u64 0,.int .i64 0,.int .u64 0,.int .i64 0,.int .i64 0,.int .i64 0,.int .i64 0] 59)) u1.heap.size [.int .i64 11,.int .i64 0,.int .i64 0,.bool false,.bool false,.bool false,.int .u64 0,.int .i64 0,.int .u64 0,.int .i64 0,.int .i64 0,.int .i64 0,.int .i64 0] 59):=Blk.made u1 _ _
 generalize (u1.alloc (.cells #[.int .i64 11,.int .i64 0,.int .i64 0,.bool false,.bool false,.bool false,.int .u64 0,.int .i64 0,.int .u64 0,.int .i64 0,.int .i64 0,.int .i64 0,.int .i64 0] 59))=V at AV KV ZR ZV |-
 refine wp_region_lit ?_
 refine load_pat (u1.heap.size) 0 [.int .i64 11,.int .i64 0,.int .i64 0,.bool false,.bool false,.bool false,.int .u64 0,.int .i64 0,.int .u64 0,.int .i64 0,.int .i64 0,.int .i64 0,.int .i64 0] _ rfl ZV.out.range Tryz.underlying59 rfl call_info ?_
 refine store_pat w.heap.size 0 #[.int .i64 11,.int .i64 0,.int .i64 0,.bool false,.bool false,.bool false,.int .u64 0,.int .i64 0,.int .u64 0,.int .i64 0,.int .i64 0,.int .i64 0,.int .i64 0] rfl rfl ZR.out.there call_info (by simp [Value.oneCell']) ?_
 have RV:Hid ((V.setCells w.heap.size 0 ((#[.int .i64 11,.int .i64 0,.int .i64 0,.bool false,.bool false,.bool false,.int .u64 0,.int .i64 0,.int .u64 0,.int .i64 0,.int .i64 0,.int .i64 0,.int .i64 0]:Array Value).toList)).rangeAt w.heap.size 0 [.int .i64 11,.int .i64 0,.int .i64 0,.bool false,.bool false,.bool false,.int .u64 0,.int .i64 0,.int .u64 0,.int .i64 0,.int .i64 0,.int .i64 0,.int .i64 0]):=World.rangeAt_setCells_same _ w.heap.size 0 [.int .i64 11,.int .i64 0,.int .i64 0,.bool false,.bool false,.bool false,.int .u64 0,.int .i64 0,.int .u64 0,.int .i64 0,.int .i64 0,.int .i64 0,.int .i64 0] (show V.there w.heap.size 0 13 from ZR.out.there)
 have AV2:Hid (IsR (V.setCells w.heap.size 0 ((#[.int .i64 11,.int .i64 0,.int .i64 0,.bool false,.bool false,.bool false,.int .u64 0,.int .i64 0,.int .u64 0,.int .i64 0,.int .i64 0,.int .i64 0,.int .i64 0]:Array Value).toList)) b W 1):=AV.out.scs (by omega) _ _
 have KV2:Hid (Kb b w (V.setCells w.heap.size 0 ((#[.int .i64 11,.int .i64 0,.int .i64 0,.bool false,.bool false,.bool false,.int .u64 0,.int .i64 0,.int .u64 0,.int .i64 0,.int .i64 0,.int .i64 0,.int .i64 0]:Array Value).toList))):=kb_scs KV.out (Nat.le_refl _) _ _
 generalize V.setCells w.heap.size 0 ((#[.int .i64 11,.int .i64 0,.int .i64 0,.bool false,.bool false,.bool false,.int .u64 0,.int .i64 0,.int .u64 0,.int .i64 0,.int .i64 0,.int .i64 0,.int .i64 0]:Array Value).toList)=V2 at RV AV2 KV2 |-
 clear AV KV ZR ZV
 go_wp2_with fail
 have hr:=run_loadVar_mid (P:=Tryz.prog) V2 w.heap.size 0 59 [.int .i64 11,.int .i64 0,.int .i64 0,.bool false,.bool false,.bool false,.int .u64 0,.int .i64 0,.int .u64 0,.int .i64 0,.int .i64 0,.int .i64 0,.int .i64 0] _ RV.out Tryz.underlying59 rfl call_info
 refine bodyPost_ret (v:=.agg #[.int .i64 11,.int .i64 0,.int .i64 0,.bool false,.bool false,.bool false,.int .u64 0,.int .i64 0,.int .u64 0,.int .i64 0,.int .i64 0,.int .i64 0,.int .i64 0]) ?_ rfl ⟨rfl,AV2.out,KV2.out⟩
 exact results_one Tryz.results24 _ _ _ _ _ rfl hr
end Go.Proofs.YtlaiadheelgbdaaGreat.Ca
