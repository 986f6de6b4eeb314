import Derived.Test.YtokpmclmdobgeaaGreatJHe
import Derived.BigQuiet
import Derived.Deep.QuietTactic
import Derived.Deep.DeepCutAuto
set_option linter.unusedSimpArgs false
set_option linter.unusedVariables false
set_option maxRecDepth 8000
set_option maxHeartbeats 1000000
open Go.ChangeShapes Go.WideShapes Go.ChangeAt Go.RowKit Go.Maps
namespace Go.Proofs.YtokpmclmdobgeaaGreat.Ca
structure Wd where
 x0:Int
 x1:Int
 x2:Int
 x3:Int
 x4:Int
 x5:Int
abbrev Wd.val (W:Wd):Value:=.agg (sf1 W.x0 W.x1 W.x2 W.x3 W.x4 W.x5)
def Wd.list (W:Wd):List Int:=[W.x0,W.x1,W.x2,W.x3,W.x4,W.x5]
def Wd.at (W:Wd) (k:Nat):Int:=W.list[k]?.getD 0
def Wd.wf (W:Wd):Prop:= ∀ k,0<=W.at k/\W.at k<18446744073709551616
def IsR (w:World) (b:Nat) (W:Wd) (k:Nat):Prop:=w.heap[b]? =some (.cells (sg1 W.x0 W.x1 W.x2 W.x3 W.x4 W.x5 (k:Int)) 103 (0,0))
theorem IsR.cell {w:World} {b:Nat} {W:Wd} {k:Nat} (h:IsR w b W k) (i:Nat) (hi:i<6):w.cell? ⟨b,i,none⟩=some (.int .u64 (W.at i)):=by
 rw [Go.Joins.cell_of_block h i]
 match i,hi with
 | 0, _ => rfl
 | 1, _ => rfl
 | 2, _ => rfl
 | 3, _ => rfl
 | 4, _ => rfl
 | 5, _ => rfl
theorem IsR.next {w:World} {b:Nat} {W:Wd} {k:Nat} (h:IsR w b W k):w.cell? ⟨b,6,none⟩=some (.int .i64 (k:Int)):=Go.Joins.cell_of_block h 6
theorem IsR.free {w:World} {b:Nat} {W:Wd} {k:Nat} (h:IsR w b W k) (i:Nat):w.frozen? ⟨b,i,none⟩=false:=Go.Joins.unfrozen_of_block h i
theorem IsR.put {w:World} {b:Nat} {W:Wd} {k:Nat} (h:IsR w b W k):IsR (w.setCell ⟨b,6,none⟩ (.int .i64 ((k:Int)+1))) b W (k+1):=by
 unfold IsR
 rw [Go.Joins.block_setCell h]
 rfl
theorem IsR.kept {w w':World} {b:Nat} {W:Wd} {k:Nat} (h:IsR w b W k) (hb:b<w.heap.size->w'.heap[b]? =w.heap[b]?):IsR w' b W k:=(hb (blk_lt h)).trans h
theorem IsR.below {w w':World} {b:Nat} {W:Wd} {k:Nat} (h:IsR w b W k) (hb:bc w w'):IsR w' b W k:=h.kept (fun l=>hb.block b l)
theorem kb_drewN (x:Nat) (w:World) (n:Nat):Kb x w (w.drewN n):=⟨rfl,rfl,rfl,Nat.le_refl _,fun _ _ _=>rfl⟩
theorem kb_alloc (x:Nat) (w:World) (o:Obj):Kb x w (w.alloc o):=Kb.below baa
theorem results_one {fn:Func} {p:Tmp} {t:TypeId} (h:fn.results= #[.cell p t]) (tmps:Array Value) (P:Program) (w:World) (a:Addr) (x:Value)
 (ha:tmps.getD p undef=.pointer (some a)) (hx:(loadVar t a).run P w=.ok x w):(results fn tmps).run P w=.ok x w:=by
 simp only [results,h]
 have e1: ∀ W:World,(asAddr (Value.pointer (some a))).run P W=.ok a W:=fun _=>rfl
 simp at ha
 simp [Sem.run_bind,Result.andThen,ha,e1,hx]
abbrev Blk (w:World) (b:Nat) (C:List Value) (t:TypeId):Prop:=w.heap[b]? =some (.cells C.toArray t (0,0))
section
variable {w:World} {b:Nat} {C:List Value} {t:TypeId}
theorem Blk.cell (h:Blk w b C t) (i:Nat):w.cell? ⟨b,i,none⟩=C[i]? :=by rw [Go.Joins.cell_of_block h i];simp
theorem Blk.free (h:Blk w b C t) (i:Nat):w.frozen? ⟨b,i,none⟩=false:=Go.Joins.unfrozen_of_block h i
theorem Blk.kb {w w':World} {b x:Nat} {C:List Value} {t:TypeId} (h:Blk w b C t) (k:Kb x w w') (ne:b≠x):Blk w' b C t:=(k.block b (blk_lt h) ne).trans h
theorem Blk.below {w w':World} {b:Nat} {C:List Value} {t:TypeId} (h:Blk w b C t) (k:bc w w'):Blk w' b C t:=(k.block b (blk_lt h)).trans h
theorem Blk.made (w:World) (C:List Value) (t:TypeId):Blk (w.alloc (.cells C.toArray t)) w.heap.size C t:=own1 w _
theorem Blk.set (h:Blk w b C t) (i:Nat) (v:Value):Blk (w.setCell ⟨b,i,none⟩ v) b (C.set i v) t:=by
 unfold Blk
 rw [Go.Joins.block_setCell h];simp
theorem Blk.far {w:World} {b c:Nat} {C:List Value} {t:TypeId} (h:Blk w b C t) (o:Nat) (v:Value) (ne:b≠c):Blk (w.setCell ⟨c,o,none⟩ v) b C t:=h.kb (Kb.set w c o v) ne
theorem Blk.there (h:Blk w b C t):w.there b 0 C.length:=fun j hj=>by
 rw [Nat.zero_add]
 exact ⟨by rw [h.cell j,List.getElem?_eq_getElem hj];rfl,h.free j⟩
theorem Blk.range (h:Blk w b C t):w.rangeAt b 0 C:=fun j v hv=>by rw [Nat.zero_add,h.cell j];exact hv
theorem store_pat {P:Program} {ops:Array Oper} {rest:List Oper} {ty t:TypeId} {x y:Operand} {pos:String} {af:Array Edge} {a:Act} {w:World} {Q:Exit->Act->World->Prop} (b o:Nat) (cells:Array Value) (hx:a.eval x=.pointer (some ⟨b,o,none⟩)) (hy:a.eval y=.agg cells)
 (ht:w.there b o cells.size) (hi:(P.info? ty).map (·.size)=some cells.size) (h1:cells.all (·.oneCell')=true)
 (h:wpList P ops Q rest a (w.setCells b o cells.toList)):wpList P ops Q ({ dst:=none,op:=.store ty x y,type:=t,pos:=pos,after:=af,guard:=none }::rest) a w :=
 wpList_store_mid rfl ty x y rfl b o cells hx hy ht hi h1 h
theorem load_pat {P:Program} {ops:Array Oper} {rest:List Oper} {ty t:TypeId} {x:Operand} {q:Tmp} {pos:String} {af:Array Edge} {a:Act} {w:World} {Q:Exit->Act->World->Prop} (b o:Nat) (cs:List Value) (d:TypeDesc) (hx:a.eval x=.pointer (some ⟨b,o,none⟩)) (hc:w.rangeAt b o cs)
 (hu:P.underlying ty=some d) (hd:d.isRow=true) (hi:(P.info? ty).map (·.size)=some cs.length)
 (h:wpList P ops Q rest (a.put (some q) (.agg cs.toArray)) w):wpList P ops Q ({ dst:=some q,op:=.load ty x,type:=t,pos:=pos,after:=af,guard:=none }::rest) a w :=
 wpList_load_mid rfl ty x rfl b o hx cs d hc hu hd hi h
theorem Blk.scs {w:World} {b c:Nat} {C:List Value} {t:TypeId} (h:Blk w b C t) (ne:b≠c): ∀ (vs:List Value) (o:Nat),Blk (w.setCells c o vs) b C t:=fun vs=>by
 induction vs generalizing w with
 | nil => intro o; exact h
 | cons v r ih => intro o; rw [World.setCells]; exact ih (h.far o v ne) _
theorem kb_scs {x c:Nat} {w X:World} (h:Kb x w X) (l:w.heap.size<=c): ∀ (vs:List Value) (o:Nat),Kb x w (X.setCells c o vs):=fun vs=>by
 induction vs generalizing X with
 | nil => intro o; exact h
 | cons v r ih =>
  intro o
  rw [World.setCells]
  have k:=Kb.set X c o v
  exact ih ⟨k.os.trans h.os,k.tape.trans h.tape,k.output.trans h.output,Nat.le_trans h.size k.size,fun j hj hne=>(k.block j (nla hj h.size) (by omega)).trans (h.block j hj hne)⟩ _
theorem kb_set {x c:Nat} {w X:World} (h:Kb x w X) (l:w.heap.size<=c) (o:Nat) (v:Value):Kb x w (X.setCell ⟨c,o,none⟩ v):=kb_scs h l [v] o
theorem IsR.blk {w:World} {b:Nat} {W:Wd} {k:Nat} (h:IsR w b W k):Blk w b [.int .u64 W.x0,.int .u64 W.x1,.int .u64 W.x2,.int .u64 W.x3,.int .u64 W.x4,.int .u64 W.x5,.int .i64 (k:Int)] 103:=h
theorem IsR.scs {w:World} {b c:Nat} {W:Wd} {k:Nat} (h:IsR w b W k) (ne:b≠c) (vs:List Value) (o:Nat):IsR (w.setCells c o vs) b W k:=h.blk.scs ne vs o
def refv:PanicEntry:={ v:=.iface 99 (.agg #[.int .i64 13]),recovered:=false }
theorem insist_yes (w:World):Calls Tryz.prog 51 #[.bool true] w fun e w'=>e=.returned (.tuple #[])/\w'=w:=by
 go_enter Tryz.func51,Tryz.ntmps51
 go_wp2_with fail
 go_returns
 exact ⟨rfl,rfl⟩
theorem insist_no (w:World):Calls Tryz.prog 51 #[.bool false] w fun e w'=>e=.panicked [refv]/\w'=w:=by
 go_enter Tryz.func51,Tryz.ntmps51
 go_wp2
 exact ⟨rfl,rfl,rfl⟩
theorem word_any (b:Nat) (W:Wd) (k:Nat) (hk:k<6) (w:World) (h:IsR w b W k):Calls Tryz.prog 50 #[.pointer (some ⟨b,0,none⟩)] w fun e w'=>e=.returned (.int .u64 (W.at k))/\IsR w' b W (k+1)/\Kb b w w':=by
 have H:Hid (IsR w b W k):=h
 have lt0:=blk_lt h
 have c6:=h.next
 have ck:=h.cell k hk
 have f6:w.frozen? ⟨b,6,none⟩=false:=h.free _
 clear h
 generalize W.at k=x at *
 have d1:decide ((k:Int)<6)=true:=kg
 have d0:decide ((k:Int)<0)=false:=by simp
 go_enter Tryz.func50,Tryz.ntmps50
 go_wp2_with fail
 go_quiet (fail)
 go_wp2_with fail
 go_returns
 exact ⟨rfl,(H.out.kept (fun _=>rfl)).put,(kb_drewN b w _).trans (Kb.set _ _ _ _)⟩
theorem below_yes (b:Nat) (W:Wd) (k:Nat) (hk:k<6) (lim:Int) (hl:W.at k<lim) (w:World) (h:IsR w b W k):Calls Tryz.prog 49 #[.pointer (some ⟨b,0,none⟩),.int .u64 lim] w fun e w'=>e=.returned (.int .u64 (W.at k))/\IsR w' b W (k+1)/\Kb b w w':=by
 have WW:Hid (Calls Tryz.prog 50 #[.pointer (some ⟨b,0,none⟩)] w fun e w'=>e=.returned (.int .u64 (W.at k))/\IsR w' b W (k+1)/\Kb b w w'):=word_any b W k hk w h
 have IY:Hid (∀ w:World,Calls Tryz.prog 51 #[.bool true] w fun e w'=>e=.returned (.tuple #[])/\w'=w):=insist_yes
 clear h
 generalize W.at k=x at *
 have d1:decide (x<lim)=true:=kg
 go_enter Tryz.func49,Tryz.ntmps49
 go_wp2_with fail
 refine WW.out.mono ?_
 rintro e u ⟨rfl,h1,k1⟩
 have H1:Hid (IsR u b W (k+1)):=h1
 have K1:Hid (Kb b w u):=k1
 clear h1 k1
 go_wp2_with fail
 refine (IY.out _).mono ?_
 rintro e u2 ⟨rfl,hu⟩
 subst hu
 go_wp2_with fail
 go_returns
 exact ⟨rfl,H1.out,K1.out⟩
theorem below_no (b:Nat) (W:Wd) (k:Nat) (hk:k<6) (lim:Int) (hl: ¬ W.at k<lim) (w:World) (h:IsR w b W k):Calls Tryz.prog 49 #[.pointer (some ⟨b,0,none⟩),.int .u64 lim] w fun e w'=>e=.panicked [refv]/\Kb b w w':=by
 have WW:Hid (Calls Tryz.prog 50 #[.pointer (some ⟨b,0,none⟩)] w fun e w'=>e=.returned (.int .u64 (W.at k))/\IsR w' b W (k+1)/\Kb b w w'):=word_any b W k hk w h
 have IY:Hid (∀ w:World,Calls Tryz.prog 51 #[.bool false] w fun e w'=>e=.panicked [refv]/\w'=w):=insist_no
 clear h
 generalize W.at k=x at *
 have d1:decide (x<lim)=false:=kg
 go_enter Tryz.func49,Tryz.ntmps49
 go_wp2_with fail
 refine WW.out.mono ?_
 rintro e u ⟨rfl,h1,k1⟩
 have K1:Hid (Kb b w u):=k1
 clear h1 k1
 go_wp2_with fail
 refine (IY.out _).mono ?_
 rintro e u2 ⟨rfl,hu⟩
 subst hu
 exact ⟨rfl,rfl,K1.out⟩
theorem number_yes (b:Nat) (W:Wd) (k:Nat) (hk:k<6) (hw:W.wf) (lim:Int) (h63:lim<=9223372036854775807) (hl:W.at k<lim) (w:World) (h:IsR w b W k):Calls Tryz.prog 43 #[.pointer (some ⟨b,0,none⟩),.int .u64 lim] w fun e w'=>e=.returned (.int .i64 (W.at k))/\IsR w' b W (k+1)/\Kb b w w':=by
 have BB:Hid (Calls Tryz.prog 49 #[.pointer (some ⟨b,0,none⟩),.int .u64 lim] w fun e w'=>e=.returned (.int .u64 (W.at k))/\IsR w' b W (k+1)/\Kb b w w'):=below_yes b W k hk lim hl w h
 have p0:=(hw k).1
 clear h hw
 generalize W.at k=x at *
 have ww:IntKind.i64.wrap x=x:=by rw [IntKind.wrap_i64];omega
 go_enter Tryz.func43,Tryz.ntmps43
 go_wp2_with fail
 refine BB.out.mono ?_
 rintro e u ⟨rfl,h1,k1⟩
 have H1:Hid (IsR u b W (k+1)):=h1
 have K1:Hid (Kb b w u):=k1
 clear h1 k1
 go_wp2_with fail
 go_returns
 exact ⟨rfl,H1.out,K1.out⟩
theorem number_no (b:Nat) (W:Wd) (k:Nat) (hk:k<6) (lim:Int) (hl: ¬ W.at k<lim) (w:World) (h:IsR w b W k):Calls Tryz.prog 43 #[.pointer (some ⟨b,0,none⟩),.int .u64 lim] w fun e w'=>e=.panicked [refv]/\Kb b w w':=by
 have BB:Hid (Calls Tryz.prog 49 #[.pointer (some ⟨b,0,none⟩),.int .u64 lim] w fun e w'=>e=.panicked [refv]/\Kb b w w'):=below_no b W k hk lim hl w h
 clear h
 go_enter Tryz.func43,Tryz.ntmps43
 go_wp2_with fail
 refine BB.out.mono ?_
 rintro e u ⟨rfl,k1⟩
 exact ⟨rfl,rfl,k1⟩
theorem range_info:(Tryz.prog.info? 66).map (·.size)=some 2:=kc
theorem perm_info:(Tryz.prog.info? 68).map (·.size)=some 3:=kc
theorem page_yes (b:Nat) (W:Wd) (k:Nat) (hk:k+1<=6) (hw:W.wf) (hl:W.at k<34359738368) (w:World) (h:IsR w b W k):Calls Tryz.prog 48 #[.pointer (some ⟨b,0,none⟩)] w fun e w'=>e=.returned (.agg #[.int .i64 (W.at k),.int .i64 (W.at k+1)])/\IsR w' b W (k+1)/\Kb b w w':=by
 have N1:Hid (∀ w:World,IsR w b W (k)->Calls Tryz.prog 43 #[.pointer (some ⟨b,0,none⟩),.int .u64 34359738368] w fun e w'=>e=.returned (.int .i64 (W.at (k)))/\IsR w' b W (k+1)/\Kb b w w'):=fun w h=>number_yes b W (k) (by omega) hw 34359738368 (by omega) hl w h
 have H0:Hid (IsR w b W k):=h
 have lt0:=blk_lt h
 clear h
 have p0:=(hw k).1
 clear hw
 generalize W.at k=x at *
 have A0:Hid (IsR (w.alloc (.cells [.int .i64 0,.int .i64 0].toArray 66)) b W k):=H0.out.below baa
 have Z0:Hid (Blk (w.alloc (.cells [.int .i64 0,.int .i64 0].toArray 66)) w.heap.size [.int .i64 0,.int .i64 0] 66):=Blk.made w _ _
 have K0:Hid (Kb b w (w.alloc (.cells [.int .i64 0,.int .i64 0].toArray 66))):=kb_alloc b w _
 go_enter Tryz.func48,Tryz.ntmps48
 go_wp2_with fail
 refine (N1.out _ A0.out).mono ?_
 rintro e u1 ⟨rfl,h1,k1⟩
 have A1:Hid (IsR u1 b W (k+1)):=h1
 have K1:Hid (Kb b w u1):=K0.out.trans k1
 have Z1:Hid (Blk u1 w.heap.size [.int .i64 0,.int .i64 0] 66):=Z0.out.kb k1 (by omega)
 clear h1 k1 A0 K0 Z0
 have yc0:u1.cell? ⟨w.heap.size,0,none⟩=some (.int .i64 0):=Z1.out.cell 0
 have yf0:u1.frozen? ⟨w.heap.size,0,none⟩=false:=Z1.out.free 0
 have yc1:u1.cell? ⟨w.heap.size,1,none⟩=some (.int .i64 0):=Z1.out.cell 1
 have yf1:u1.frozen? ⟨w.heap.size,1,none⟩=false:=Z1.out.free 1
 have y4:w.heap.size<u1.heap.size:=blk_lt Z1.out
 go_wp2_with fail
 change bodyPost _ _ _ _ _ (u1.setCells w.heap.size 0 [.int .i64 x,.int .i64 (x+1)])
 have hr:=run_loadVar_mid (P:=Tryz.prog) (u1.setCells w.heap.size 0 [.int .i64 x,.int .i64 (x+1)]) w.heap.size 0 66 [.int .i64 x,.int .i64 (x+1)] _ (World.rangeAt_setCells_same _ w.heap.size 0 [.int .i64 x,.int .i64 (x+1)] (show u1.there w.heap.size 0 2 from Z1.out.there)) Tryz.underlying66 rfl range_info
 refine bodyPost_ret (v:=.agg #[.int .i64 x,.int .i64 (x+1)]) ?_ rfl ⟨rfl,A1.out.scs (by omega) _ _,kb_scs K1.out (Nat.le_refl _) _ _⟩
 exact results_one Tryz.results48 _ _ _ _ _ rfl hr
theorem page_no (b:Nat) (W:Wd) (k:Nat) (hk:k+1<=6) (hw:W.wf) (hl: ¬ W.at k<34359738368) (w:World) (h:IsR w b W k):Calls Tryz.prog 48 #[.pointer (some ⟨b,0,none⟩)] w fun e w'=>e=.panicked [refv]/\Kb b w w':=by
 have N1:Hid (∀ w:World,IsR w b W (k)->Calls Tryz.prog 43 #[.pointer (some ⟨b,0,none⟩),.int .u64 34359738368] w fun e w'=>e=.panicked [refv]/\Kb b w w'):=fun w h=>number_no b W (k) (by omega) 34359738368 hl w h
 have H0:Hid (IsR w b W k):=h
 have lt0:=blk_lt h
 clear h
 clear hw
 have A0:Hid (IsR (w.alloc (.cells [.int .i64 0,.int .i64 0].toArray 66)) b W k):=H0.out.below baa
 have Z0:Hid (Blk (w.alloc (.cells [.int .i64 0,.int .i64 0].toArray 66)) w.heap.size [.int .i64 0,.int .i64 0] 66):=Blk.made w _ _
 have K0:Hid (Kb b w (w.alloc (.cells [.int .i64 0,.int .i64 0].toArray 66))):=kb_alloc b w _
 go_enter Tryz.func48,Tryz.ntmps48
 go_wp2_with fail
 refine (N1.out _ A0.out).mono ?_
 rintro e u9 ⟨rfl,k1⟩
 exact ⟨rfl,rfl,K0.out.trans k1⟩
def pagesOk (a n:Int):Prop:=a<34359738368/\n<65537/\0<n/\a+n<=34359738368
instance (a n:Int):Decidable (pagesOk a n):=by unfold pagesOk;infer_instance
theorem pages_yes (b:Nat) (W:Wd) (k:Nat) (hk:k+2<=6) (hw:W.wf) (hl:pagesOk (W.at k) (W.at (k+1))) (w:World) (h:IsR w b W k):Calls Tryz.prog 44 #[.pointer (some ⟨b,0,none⟩)] w fun e w'=>e=.returned (.agg #[.int .i64 (W.at k),.int .i64 (W.at k+W.at (k+1))])/\IsR w' b W (k+2)/\Kb b w w':=by
 obtain ⟨l1,l2,l3,l4⟩:=hl
 have N1:Hid (∀ w:World,IsR w b W (k)->Calls Tryz.prog 43 #[.pointer (some ⟨b,0,none⟩),.int .u64 34359738368] w fun e w'=>e=.returned (.int .i64 (W.at (k)))/\IsR w' b W (k+1)/\Kb b w w'):=fun w h=>number_yes b W (k) (by omega) hw 34359738368 (by omega) l1 w h
 have N2:Hid (∀ w:World,IsR w b W (k+1)->Calls Tryz.prog 43 #[.pointer (some ⟨b,0,none⟩),.int .u64 65537] w fun e w'=>e=.returned (.int .i64 (W.at (k+1)))/\IsR w' b W (k+1+1)/\Kb b w w'):=fun w h=>number_yes b W (k+1) (by omega) hw 65537 (by omega) l2 w h
 have IY:Hid (∀ w:World,Calls Tryz.prog 51 #[.bool true] w fun e w'=>e=.returned (.tuple #[])/\w'=w):=insist_yes
 have H0:Hid (IsR w b W k):=h
 have lt0:=blk_lt h
 clear h
 have p0:=(hw k).1
 have p1:=(hw (k+1)).1
 clear hw
 generalize W.at k=x at *
 generalize W.at (k+1)=y at *
 have d1:decide (0<y)=true:=kg
 have d2:decide (x+y<=34359738368)=true:=kg
 have A0:Hid (IsR (w.alloc (.cells [.int .i64 0,.int .i64 0].toArray 66)) b W k):=H0.out.below baa
 have Z0:Hid (Blk (w.alloc (.cells [.int .i64 0,.int .i64 0].toArray 66)) w.heap.size [.int .i64 0,.int .i64 0] 66):=Blk.made w _ _
 have K0:Hid (Kb b w (w.alloc (.cells [.int .i64 0,.int .i64 0].toArray 66))):=kb_alloc b w _
 go_enter Tryz.func44,Tryz.ntmps44
 go_wp2_with fail
 refine (N1.out _ A0.out).mono ?_
 rintro e u1 ⟨rfl,h1,k1⟩
 have A1:Hid (IsR u1 b W (k+1)):=h1
 have K1:Hid (Kb b w u1):=K0.out.trans k1
 have Z1:Hid (Blk u1 w.heap.size [.int .i64 0,.int .i64 0] 66):=Z0.out.kb k1 (by omega)
 clear h1 k1 A0 K0 Z0
 go_wp2_with fail
 refine (N2.out _ A1.out).mono ?_
 rintro e u2 ⟨rfl,h1,k1⟩
 have A2:Hid (IsR u2 b W (k+1+1)):=h1
 have K2:Hid (Kb b w u2):=K1.out.trans k1
 have Z2:Hid (Blk u2 w.heap.size [.int .i64 0,.int .i64 0] 66):=Z1.out.kb k1 (by omega)
 clear h1 k1 A1 K1 Z1
 have yc0:u2.cell? ⟨w.heap.size,0,none⟩=some (.int .i64 0):=Z2.out.cell 0
 have yf0:u2.frozen? ⟨w.heap.size,0,none⟩=false:=Z2.out.free 0
 have yc1:u2.cell? ⟨w.heap.size,1,none⟩=some (.int .i64 0):=Z2.out.cell 1
 have yf1:u2.frozen? ⟨w.heap.size,1,none⟩=false:=Z2.out.free 1
 have y4:w.heap.size<u2.heap.size:=blk_lt Z2.out
 go_wp2_with fail
 refine (IY.out _).mono ?_
 rintro e u8 ⟨rfl,hu⟩
 have hu2:=hu.symm
 subst hu2
 go_wp2_with fail
 change bodyPost _ _ _ _ _ (u2.setCells w.heap.size 0 [.int .i64 x,.int .i64 (x+y)])
 have hr:=run_loadVar_mid (P:=Tryz.prog) (u2.setCells w.heap.size 0 [.int .i64 x,.int .i64 (x+y)]) w.heap.size 0 66 [.int .i64 x,.int .i64 (x+y)] _ (World.rangeAt_setCells_same _ w.heap.size 0 [.int .i64 x,.int .i64 (x+y)] (show u2.there w.heap.size 0 2 from Z2.out.there)) Tryz.underlying66 rfl range_info
 refine bodyPost_ret (v:=.agg #[.int .i64 x,.int .i64 (x+y)]) ?_ rfl ⟨rfl,A2.out.scs (by omega) _ _,kb_scs K2.out (Nat.le_refl _) _ _⟩
 exact results_one Tryz.results44 _ _ _ _ _ rfl hr
theorem pages_no (b:Nat) (W:Wd) (k:Nat) (hk:k+2<=6) (hw:W.wf) (hl: ¬ pagesOk (W.at k) (W.at (k+1))) (w:World) (h:IsR w b W k):Calls Tryz.prog 44 #[.pointer (some ⟨b,0,none⟩)] w fun e w'=>e=.panicked [refv]/\Kb b w w':=by
 by_cases l1:W.at k<34359738368
 rotate_left
 . have N1:Hid (∀ w:World,IsR w b W (k)->Calls Tryz.prog 43 #[.pointer (some ⟨b,0,none⟩),.int .u64 34359738368] w fun e w'=>e=.panicked [refv]/\Kb b w w'):=fun w h=>number_no b W (k) (by omega) 34359738368 l1 w h
   have H0:Hid (IsR w b W k):=h
   have lt0:=blk_lt h
   clear h
   clear hw
   have A0:Hid (IsR (w.alloc (.cells [.int .i64 0,.int .i64 0].toArray 66)) b W k):=H0.out.below baa
   have Z0:Hid (Blk (w.alloc (.cells [.int .i64 0,.int .i64 0].toArray 66)) w.heap.size [.int .i64 0,.int .i64 0] 66):=Blk.made w _ _
   have K0:Hid (Kb b w (w.alloc (.cells [.int .i64 0,.int .i64 0].toArray 66))):=kb_alloc b w _
   go_enter Tryz.func44,Tryz.ntmps44
   go_wp2_with fail
   refine (N1.out _ A0.out).mono ?_
   rintro e u9 ⟨rfl,k1⟩
   exact ⟨rfl,rfl,K0.out.trans k1⟩
 have N1:Hid (∀ w:World,IsR w b W (k)->Calls Tryz.prog 43 #[.pointer (some ⟨b,0,none⟩),.int .u64 34359738368] w fun e w'=>e=.returned (.int .i64 (W.at (k)))/\IsR w' b W (k+1)/\Kb b w w'):=fun w h=>number_yes b W (k) (by omega) hw 34359738368 (by omega) l1 w h
 by_cases l2:W.at (k+1)<65537
 rotate_left
 . have N2:Hid (∀ w:World,IsR w b W (k+1)->Calls Tryz.prog 43 #[.pointer (some ⟨b,0,none⟩),.int .u64 65537] w fun e w'=>e=.panicked [refv]/\Kb b w w'):=fun w h=>number_no b W (k+1) (by omega) 65537 l2 w h
   have H0:Hid (IsR w b W k):=h
   have lt0:=blk_lt h
   clear h
   clear hw
   have A0:Hid (IsR (w.alloc (.cells [.int .i64 0,.int .i64 0].toArray 66)) b W k):=H0.out.below baa
   have Z0:Hid (Blk (w.alloc (.cells [.int .i64 0,.int .i64 0].toArray 66)) w.heap.size [.int .i64 0,.int .i64 0] 66):=Blk.made w _ _
   have K0:Hid (Kb b w (w.alloc (.cells [.int .i64 0,.int .i64 0].toArray 66))):=kb_alloc b w _
   go_enter Tryz.func44,Tryz.ntmps44
   go_wp2_with fail
   refine (N1.out _ A0.out).mono ?_
   rintro e u1 ⟨rfl,h1,k1⟩
   have A1:Hid (IsR u1 b W (k+1)):=h1
   have K1:Hid (Kb b w u1):=K0.out.trans k1
   have Z1:Hid (Blk u1 w.heap.size [.int .i64 0,.int .i64 0] 66):=Z0.out.kb k1 (by omega)
   clear h1 k1 A0 K0 Z0
   go_wp2_with fail
   refine (N2.out _ A1.out).mono ?_
   rintro e u9 ⟨rfl,k1⟩
   exact ⟨rfl,rfl,K1.out.trans k1⟩
 have N2:Hid (∀ w:World,IsR w b W (k+1)->Calls Tryz.prog 43 #[.pointer (some ⟨b,0,none⟩),.int .u64 65537] w fun e w'=>e=.returned (.int .i64 (W.at (k+1)))/\IsR w' b W (k+1+1)/\Kb b w w'):=fun w h=>number_yes b W (k+1) (by omega) hw 65537 (by omega) l2 w h
 have IN:Hid (∀ w:World,Calls Tryz.prog 51 #[.bool false] w fun e w'=>e=.panicked [refv]/\w'=w):=insist_no
 have H0:Hid (IsR w b W k):=h
 have lt0:=blk_lt h
 clear h
 have p0:=(hw k).1
 have p1:=(hw (k+1)).1
 have hl2: ¬ (0<W.at (k+1)/\W.at k+W.at (k+1)<=34359738368):=fun z=>hl ⟨l1,l2,z.1,z.2⟩
 clear hw hl
 generalize W.at k=x at *
 generalize W.at (k+1)=y at *
 have A0:Hid (IsR (w.alloc (.cells [.int .i64 0,.int .i64 0].toArray 66)) b W k):=H0.out.below baa
 have Z0:Hid (Blk (w.alloc (.cells [.int .i64 0,.int .i64 0].toArray 66)) w.heap.size [.int .i64 0,.int .i64 0] 66):=Blk.made w _ _
 have K0:Hid (Kb b w (w.alloc (.cells [.int .i64 0,.int .i64 0].toArray 66))):=kb_alloc b w _
 by_cases d:0<y
 . have d1:decide (0<y)=true:=by simp [d]
   have d2:decide (x+y<=34359738368)=false:=kg
   go_enter Tryz.func44,Tryz.ntmps44
   go_wp2_with fail
   refine (N1.out _ A0.out).mono ?_
   rintro e u1 ⟨rfl,h1,k1⟩
   have A1:Hid (IsR u1 b W (k+1)):=h1
   have K1:Hid (Kb b w u1):=K0.out.trans k1
   have Z1:Hid (Blk u1 w.heap.size [.int .i64 0,.int .i64 0] 66):=Z0.out.kb k1 (by omega)
   clear h1 k1 A0 K0 Z0
   go_wp2_with fail
   refine (N2.out _ A1.out).mono ?_
   rintro e u2 ⟨rfl,h1,k1⟩
   have A2:Hid (IsR u2 b W (k+1+1)):=h1
   have K2:Hid (Kb b w u2):=K1.out.trans k1
   have Z2:Hid (Blk u2 w.heap.size [.int .i64 0,.int .i64 0] 66):=Z1.out.kb k1 (by omega)
   clear h1 k1 A1 K1 Z1
   go_wp2_with fail
   refine (IN.out _).mono ?_
   rintro e u8 ⟨rfl,hu⟩
   have hu2:=hu.symm
   subst hu2
   exact ⟨rfl,rfl,K2.out⟩
 . have d1:decide (0<y)=false:=by simp;omega
   go_enter Tryz.func44,Tryz.ntmps44
   go_wp2_with fail
   refine (N1.out _ A0.out).mono ?_
   rintro e u1 ⟨rfl,h1,k1⟩
   have A1:Hid (IsR u1 b W (k+1)):=h1
   have K1:Hid (Kb b w u1):=K0.out.trans k1
   have Z1:Hid (Blk u1 w.heap.size [.int .i64 0,.int .i64 0] 66):=Z0.out.kb k1 (by omega)
   clear h1 k1 A0 K0 Z0
   go_wp2_with fail
   refine (N2.out _ A1.out).mono ?_
   rintro e u2 ⟨rfl,h1,k1⟩
   have A2:Hid (IsR u2 b W (k+1+1)):=h1
   have K2:Hid (Kb b w u2):=K1.out.trans k1
   have Z2:Hid (Blk u2 w.heap.size [.int .i64 0,.int .i64 0] 66):=Z1.out.kb k1 (by omega)
   clear h1 k1 A1 K1 Z1
   go_wp2_with fail
   refine (IN.out _).mono ?_
   rintro e u8 ⟨rfl,hu⟩
   have hu2:=hu.symm
   subst hu2
   exact ⟨rfl,rfl,K2.out⟩
def permW (x:Int):Bool:=decide (x % 2=1)
def permX (x:Int):Bool:=decide (2<=x)
theorem perm_yes (b:Nat) (W:Wd) (k:Nat) (hk:k+1<=6) (hw:W.wf) (hl:W.at k<4) (w:World) (h:IsR w b W k):Calls Tryz.prog 45 #[.pointer (some ⟨b,0,none⟩)] w fun e w'=>e=.returned (.agg (s9 (permW (W.at k)) true (permX (W.at k))))/\IsR w' b W (k+1)/\Kb b w w':=by
 have N1:Hid (∀ w:World,IsR w b W (k)->Calls Tryz.prog 49 #[.pointer (some ⟨b,0,none⟩),.int .u64 4] w fun e w'=>e=.returned (.int .u64 (W.at (k)))/\IsR w' b W (k+1)/\Kb b w w'):=fun w h=>below_yes b W (k) (by omega) 4 hl w h
 have H0:Hid (IsR w b W k):=h
 have lt0:=blk_lt h
 clear h
 have p0:=(hw k).1
 clear hw
 generalize W.at k=x at *
 have A0:Hid (IsR (w.alloc (.cells sr1.toArray 68)) b W k):=H0.out.below baa
 have Z0:Hid (Blk (w.alloc (.cells sr1.toArray 68)) w.heap.size sr1 68):=Blk.made w _ _
 have K0:Hid (Kb b w (w.alloc (.cells sr1.toArray 68))):=kb_alloc b w _
 have hx:x=0\/x=1\/x=2\/x=3:=by omega
 rcases hx with rfl | rfl | rfl | rfl
 . go_enter Tryz.func45,Tryz.ntmps45
   go_wp2_with fail
   refine (N1.out _ A0.out).mono ?_
   rintro e u1 ⟨rfl,h1,k1⟩
   have A1:Hid (IsR u1 b W (k+1)):=h1
   have K1:Hid (Kb b w u1):=K0.out.trans k1
   have Z1:Hid (Blk u1 w.heap.size sr1 68):=Z0.out.kb k1 (by omega)
   clear h1 k1 A0 K0 Z0
   have yc0:u1.cell? ⟨w.heap.size,0,none⟩=some (.bool false):=Z1.out.cell 0
   have yf0:u1.frozen? ⟨w.heap.size,0,none⟩=false:=Z1.out.free 0
   have yc1:u1.cell? ⟨w.heap.size,1,none⟩=some (.bool false):=Z1.out.cell 1
   have yf1:u1.frozen? ⟨w.heap.size,1,none⟩=false:=Z1.out.free 1
   have yc2:u1.cell? ⟨w.heap.size,2,none⟩=some (.bool false):=Z1.out.cell 2
   have yf2:u1.frozen? ⟨w.heap.size,2,none⟩=false:=Z1.out.free 2
   have y4:w.heap.size<u1.heap.size:=blk_lt Z1.out
   go_wp2_with fail
   change bodyPost _ _ _ _ _ (u1.setCells w.heap.size 0 ss1)
   have hr:=run_loadVar_mid (P:=Tryz.prog) (u1.setCells w.heap.size 0 ss1) w.heap.size 0 68 ss1 _ (World.rangeAt_setCells_same _ w.heap.size 0 ss1 (show u1.there w.heap.size 0 3 from Z1.out.there)) Tryz.underlying68 rfl perm_info
   refine bodyPost_ret (v:=.agg st1) ?_ rfl ⟨rfl,A1.out.scs (by omega) _ _,kb_scs K1.out (Nat.le_refl _) _ _⟩
   exact results_one Tryz.results45 _ _ _ _ _ rfl hr
 . go_enter Tryz.func45,Tryz.ntmps45
   go_wp2_with fail
   refine (N1.out _ A0.out).mono ?_
   rintro e u1 ⟨rfl,h1,k1⟩
   have A1:Hid (IsR u1 b W (k+1)):=h1
   have K1:Hid (Kb b w u1):=K0.out.trans k1
   have Z1:Hid (Blk u1 w.heap.size sr1 68):=Z0.out.kb k1 (by omega)
   clear h1 k1 A0 K0 Z0
   have yc0:u1.cell? ⟨w.heap.size,0,none⟩=some (.bool false):=Z1.out.cell 0
   have yf0:u1.frozen? ⟨w.heap.size,0,none⟩=false:=Z1.out.free 0
   have yc1:u1.cell? ⟨w.heap.size,1,none⟩=some (.bool false):=Z1.out.cell 1
   have yf1:u1.frozen? ⟨w.heap.size,1,none⟩=false:=Z1.out.free 1
   have yc2:u1.cell? ⟨w.heap.size,2,none⟩=some (.bool false):=Z1.out.cell 2
   have yf2:u1.frozen? ⟨w.heap.size,2,none⟩=false:=Z1.out.free 2
   have y4:w.heap.size<u1.heap.size:=blk_lt Z1.out
   go_wp2_with fail
   change bodyPost _ _ _ _ _ (u1.setCells w.heap.size 0 su1)
   have hr:=run_loadVar_mid (P:=Tryz.prog) (u1.setCells w.heap.size 0 su1) w.heap.size 0 68 su1 _ (World.rangeAt_setCells_same _ w.heap.size 0 su1 (show u1.there w.heap.size 0 3 from Z1.out.there)) Tryz.underlying68 rfl perm_info
   refine bodyPost_ret (v:=.agg sv1) ?_ rfl ⟨rfl,A1.out.scs (by omega) _ _,kb_scs K1.out (Nat.le_refl _) _ _⟩
   exact results_one Tryz.results45 _ _ _ _ _ rfl hr
 . go_enter Tryz.func45,Tryz.ntmps45
   go_wp2_with fail
   refine (N1.out _ A0.out).mono ?_
   rintro e u1 ⟨rfl,h1,k1⟩
   have A1:Hid (IsR u1 b W (k+1)):=h1
   have K1:Hid (Kb b w u1):=K0.out.trans k1
   have Z1:Hid (Blk u1 w.heap.size sr1 68):=Z0.out.kb k1 (by omega)
   clear h1 k1 A0 K0 Z0
   have yc0:u1.cell? ⟨w.heap.size,0,none⟩=some (.bool false):=Z1.out.cell 0
   have yf0:u1.frozen? ⟨w.heap.size,0,none⟩=false:=Z1.out.free 0
   have yc1:u1.cell? ⟨w.heap.size,1,none⟩=some (.bool false):=Z1.out.cell 1
   have yf1:u1.frozen? ⟨w.heap.size,1,none⟩=false:=Z1.out.free 1
   have yc2:u1.cell? ⟨w.heap.size,2,none⟩=some (.bool false):=Z1.out.cell 2
   have yf2:u1.frozen? ⟨w.heap.size,2,none⟩=false:=Z1.out.free 2
   have y4:w.heap.size<u1.heap.size:=blk_lt Z1.out
   go_wp2_with fail
   change bodyPost _ _ _ _ _ (u1.setCells w.heap.size 0 (sh1 false true true))
   have hr:=run_loadVar_mid (P:=Tryz.prog) (u1.setCells w.heap.size 0 (sh1 false true true)) w.heap.size 0 68 (sh1 false true true) _ (World.rangeAt_setCells_same _ w.heap.size 0 (sh1 false true true) (show u1.there w.heap.size 0 3 from Z1.out.there)) Tryz.underlying68 rfl perm_info
   refine bodyPost_ret (v:=.agg (s9 false true true)) ?_ rfl ⟨rfl,A1.out.scs (by omega) _ _,kb_scs K1.out (Nat.le_refl _) _ _⟩
   exact results_one Tryz.results45 _ _ _ _ _ rfl hr
 . go_enter Tryz.func45,Tryz.ntmps45
   go_wp2_with fail
   refine (N1.out _ A0.out).mono ?_
   rintro e u1 ⟨rfl,h1,k1⟩
   have A1:Hid (IsR u1 b W (k+1)):=h1
   have K1:Hid (Kb b w u1):=K0.out.trans k1
   have Z1:Hid (Blk u1 w.heap.size sr1 68):=Z0.out.kb k1 (by omega)
   clear h1 k1 A0 K0 Z0
   have yc0:u1.cell? ⟨w.heap.size,0,none⟩=some (.bool false):=Z1.out.cell 0
   have yf0:u1.frozen? ⟨w.heap.size,0,none⟩=false:=Z1.out.free 0
   have yc1:u1.cell? ⟨w.heap.size,1,none⟩=some (.bool false):=Z1.out.cell 1
   have yf1:u1.frozen? ⟨w.heap.size,1,none⟩=false:=Z1.out.free 1
   have yc2:u1.cell? ⟨w.heap.size,2,none⟩=some (.bool false):=Z1.out.cell 2
   have yf2:u1.frozen? ⟨w.heap.size,2,none⟩=false:=Z1.out.free 2
   have y4:w.heap.size<u1.heap.size:=blk_lt Z1.out
   go_wp2_with fail
   change bodyPost _ _ _ _ _ (u1.setCells w.heap.size 0 (sh1 true true true))
   have hr:=run_loadVar_mid (P:=Tryz.prog) (u1.setCells w.heap.size 0 (sh1 true true true)) w.heap.size 0 68 (sh1 true true true) _ (World.rangeAt_setCells_same _ w.heap.size 0 (sh1 true true true) (show u1.there w.heap.size 0 3 from Z1.out.there)) Tryz.underlying68 rfl perm_info
   refine bodyPost_ret (v:=.agg (s9 true true true)) ?_ rfl ⟨rfl,A1.out.scs (by omega) _ _,kb_scs K1.out (Nat.le_refl _) _ _⟩
   exact results_one Tryz.results45 _ _ _ _ _ rfl hr
theorem perm_no (b:Nat) (W:Wd) (k:Nat) (hk:k+1<=6) (hw:W.wf) (hl: ¬ W.at k<4) (w:World) (h:IsR w b W k):Calls Tryz.prog 45 #[.pointer (some ⟨b,0,none⟩)] w fun e w'=>e=.panicked [refv]/\Kb b w w':=by
 have N1:Hid (∀ w:World,IsR w b W (k)->Calls Tryz.prog 49 #[.pointer (some ⟨b,0,none⟩),.int .u64 4] w fun e w'=>e=.panicked [refv]/\Kb b w w'):=fun w h=>below_no b W (k) (by omega) 4 hl w h
 have H0:Hid (IsR w b W k):=h
 have lt0:=blk_lt h
 clear h
 clear hw
 have A0:Hid (IsR (w.alloc (.cells sr1.toArray 68)) b W k):=H0.out.below baa
 have Z0:Hid (Blk (w.alloc (.cells sr1.toArray 68)) w.heap.size sr1 68):=Blk.made w _ _
 have K0:Hid (Kb b w (w.alloc (.cells sr1.toArray 68))):=kb_alloc b w _
 go_enter Tryz.func45,Tryz.ntmps45
 go_wp2_with fail
 refine (N1.out _ A0.out).mono ?_
 rintro e u9 ⟨rfl,k1⟩
 exact ⟨rfl,rfl,K0.out.trans k1⟩
def spotOk (a s:Int):Prop:=a<140737488355328/\(s=1\/s=2\/s=4\/s=8)/\a % s=0
instance (a s:Int):Decidable (spotOk a s):=by unfold spotOk;infer_instance
theorem place_yes (b:Nat) (W:Wd) (k:Nat) (hk:k+2<=6) (hw:W.wf) (hl:spotOk (W.at k) (W.at (k+1))) (w:World) (h:IsR w b W k):Calls Tryz.prog 46 #[.pointer (some ⟨b,0,none⟩)] w fun e w'=>e=.returned (.tuple #[.int .u64 (W.at k),.int .i64 (W.at (k+1))])/\IsR w' b W (k+2)/\Kb b w w':=by
 obtain ⟨l1,l2,l3⟩:=hl
 have N1:Hid (∀ w:World,IsR w b W (k)->Calls Tryz.prog 49 #[.pointer (some ⟨b,0,none⟩),.int .u64 140737488355328] w fun e w'=>e=.returned (.int .u64 (W.at (k)))/\IsR w' b W (k+1)/\Kb b w w'):=fun w h=>below_yes b W (k) (by omega) 140737488355328 l1 w h
 have N2:Hid (∀ w:World,IsR w b W (k+1)->Calls Tryz.prog 43 #[.pointer (some ⟨b,0,none⟩),.int .u64 9] w fun e w'=>e=.returned (.int .i64 (W.at (k+1)))/\IsR w' b W (k+1+1)/\Kb b w w'):=fun w h=>number_yes b W (k+1) (by omega) hw 9 (by omega) (by omega) w h
 have IY:Hid (∀ w:World,Calls Tryz.prog 51 #[.bool true] w fun e w'=>e=.returned (.tuple #[])/\w'=w):=insist_yes
 have H0:Hid (IsR w b W k):=h
 have lt0:=blk_lt h
 clear h
 have K0:Hid (Kb b w w):=Kb.refl _ _
 have A0:Hid (IsR w b W k):=H0.out
 have p0:=(hw k).1
 clear hw
 generalize W.at k=x at *
 generalize W.at (k+1)=y at *
 rcases l2 with rfl | rfl | rfl | rfl
 . have t1:x.tmod 1=0:=by rw [Int.tmod_eq_emod_of_nonneg p0];exact l3
   go_enter Tryz.func46,Tryz.ntmps46
   go_wp2_with fail
   refine (N1.out _ A0.out).mono ?_
   rintro e u1 ⟨rfl,h1,k1⟩
   have A1:Hid (IsR u1 b W (k+1)):=h1
   have K1:Hid (Kb b w u1):=K0.out.trans k1
   clear h1 k1 A0 K0
   go_wp2_with fail
   refine (N2.out _ A1.out).mono ?_
   rintro e u2 ⟨rfl,h1,k1⟩
   have A2:Hid (IsR u2 b W (k+1+1)):=h1
   have K2:Hid (Kb b w u2):=K1.out.trans k1
   clear h1 k1 A1 K1
   go_wp2_with fail
   refine (IY.out _).mono ?_
   rintro e u8 ⟨rfl,hu⟩
   have hu2:=hu.symm
   subst hu2
   go_wp2_with fail
   refine (IY.out _).mono ?_
   rintro e u8 ⟨rfl,hu⟩
   have hu2:=hu.symm
   subst hu2
   go_wp2_with fail
   go_returns
   exact ⟨rfl,A2.out,K2.out⟩
 . have t1:x.tmod 2=0:=by rw [Int.tmod_eq_emod_of_nonneg p0];exact l3
   go_enter Tryz.func46,Tryz.ntmps46
   go_wp2_with fail
   refine (N1.out _ A0.out).mono ?_
   rintro e u1 ⟨rfl,h1,k1⟩
   have A1:Hid (IsR u1 b W (k+1)):=h1
   have K1:Hid (Kb b w u1):=K0.out.trans k1
   clear h1 k1 A0 K0
   go_wp2_with fail
   refine (N2.out _ A1.out).mono ?_
   rintro e u2 ⟨rfl,h1,k1⟩
   have A2:Hid (IsR u2 b W (k+1+1)):=h1
   have K2:Hid (Kb b w u2):=K1.out.trans k1
   clear h1 k1 A1 K1
   go_wp2_with fail
   refine (IY.out _).mono ?_
   rintro e u8 ⟨rfl,hu⟩
   have hu2:=hu.symm
   subst hu2
   go_wp2_with fail
   refine (IY.out _).mono ?_
   rintro e u8 ⟨rfl,hu⟩
   have hu2:=hu.symm
   subst hu2
   go_wp2_with fail
   go_returns
   exact ⟨rfl,A2.out,K2.out⟩
 . have t1:x.tmod 4=0:=by rw [Int.tmod_eq_emod_of_nonneg p0];exact l3
   go_enter Tryz.func46,Tryz.ntmps46
   go_wp2_with fail
   refine (N1.out _ A0.out).mono ?_
   rintro e u1 ⟨rfl,h1,k1⟩
   have A1:Hid (IsR u1 b W (k+1)):=h1
   have K1:Hid (Kb b w u1):=K0.out.trans k1
   clear h1 k1 A0 K0
   go_wp2_with fail
   refine (N2.out _ A1.out).mono ?_
   rintro e u2 ⟨rfl,h1,k1⟩
   have A2:Hid (IsR u2 b W (k+1+1)):=h1
   have K2:Hid (Kb b w u2):=K1.out.trans k1
   clear h1 k1 A1 K1
   go_wp2_with fail
   refine (IY.out _).mono ?_
   rintro e u8 ⟨rfl,hu⟩
   have hu2:=hu.symm
   subst hu2
   go_wp2_with fail
   refine (IY.out _).mono ?_
   rintro e u8 ⟨rfl,hu⟩
   have hu2:=hu.symm
   subst hu2
   go_wp2_with fail
   go_returns
   exact ⟨rfl,A2.out,K2.out⟩
 . have t1:x.tmod 8=0:=by rw [Int.tmod_eq_emod_of_nonneg p0];exact l3
   go_enter Tryz.func46,Tryz.ntmps46
   go_wp2_with fail
   refine (N1.out _ A0.out).mono ?_
   rintro e u1 ⟨rfl,h1,k1⟩
   have A1:Hid (IsR u1 b W (k+1)):=h1
   have K1:Hid (Kb b w u1):=K0.out.trans k1
   clear h1 k1 A0 K0
   go_wp2_with fail
   refine (N2.out _ A1.out).mono ?_
   rintro e u2 ⟨rfl,h1,k1⟩
   have A2:Hid (IsR u2 b W (k+1+1)):=h1
   have K2:Hid (Kb b w u2):=K1.out.trans k1
   clear h1 k1 A1 K1
   go_wp2_with fail
   refine (IY.out _).mono ?_
   rintro e u8 ⟨rfl,hu⟩
   have hu2:=hu.symm
   subst hu2
   go_wp2_with fail
   refine (IY.out _).mono ?_
   rintro e u8 ⟨rfl,hu⟩
   have hu2:=hu.symm
   subst hu2
   go_wp2_with fail
   go_returns
   exact ⟨rfl,A2.out,K2.out⟩
theorem place_no (b:Nat) (W:Wd) (k:Nat) (hk:k+2<=6) (hw:W.wf) (hl: ¬ spotOk (W.at k) (W.at (k+1))) (w:World) (h:IsR w b W k):Calls Tryz.prog 46 #[.pointer (some ⟨b,0,none⟩)] w fun e w'=>e=.panicked [refv]/\Kb b w w':=by
 by_cases l1:W.at k<140737488355328
 rotate_left
 . have N1:Hid (∀ w:World,IsR w b W (k)->Calls Tryz.prog 49 #[.pointer (some ⟨b,0,none⟩),.int .u64 140737488355328] w fun e w'=>e=.panicked [refv]/\Kb b w w'):=fun w h=>below_no b W (k) (by omega) 140737488355328 l1 w h
   have H0:Hid (IsR w b W k):=h
   have lt0:=blk_lt h
   clear h
   have K0:Hid (Kb b w w):=Kb.refl _ _
   have A0:Hid (IsR w b W k):=H0.out
   clear hw
   go_enter Tryz.func46,Tryz.ntmps46
   go_wp2_with fail
   refine (N1.out _ A0.out).mono ?_
   rintro e u9 ⟨rfl,k1⟩
   exact ⟨rfl,rfl,K0.out.trans k1⟩
 have N1:Hid (∀ w:World,IsR w b W (k)->Calls Tryz.prog 49 #[.pointer (some ⟨b,0,none⟩),.int .u64 140737488355328] w fun e w'=>e=.returned (.int .u64 (W.at (k)))/\IsR w' b W (k+1)/\Kb b w w'):=fun w h=>below_yes b W (k) (by omega) 140737488355328 l1 w h
 by_cases l2:W.at (k+1)<9
 rotate_left
 . have N2:Hid (∀ w:World,IsR w b W (k+1)->Calls Tryz.prog 43 #[.pointer (some ⟨b,0,none⟩),.int .u64 9] w fun e w'=>e=.panicked [refv]/\Kb b w w'):=fun w h=>number_no b W (k+1) (by omega) 9 l2 w h
   have H0:Hid (IsR w b W k):=h
   have lt0:=blk_lt h
   clear h
   have K0:Hid (Kb b w w):=Kb.refl _ _
   have A0:Hid (IsR w b W k):=H0.out
   clear hw
   go_enter Tryz.func46,Tryz.ntmps46
   go_wp2_with fail
   refine (N1.out _ A0.out).mono ?_
   rintro e u1 ⟨rfl,h1,k1⟩
   have A1:Hid (IsR u1 b W (k+1)):=h1
   have K1:Hid (Kb b w u1):=K0.out.trans k1
   clear h1 k1 A0 K0
   go_wp2_with fail
   refine (N2.out _ A1.out).mono ?_
   rintro e u9 ⟨rfl,k1⟩
   exact ⟨rfl,rfl,K1.out.trans k1⟩
 have N2:Hid (∀ w:World,IsR w b W (k+1)->Calls Tryz.prog 43 #[.pointer (some ⟨b,0,none⟩),.int .u64 9] w fun e w'=>e=.returned (.int .i64 (W.at (k+1)))/\IsR w' b W (k+1+1)/\Kb b w w'):=fun w h=>number_yes b W (k+1) (by omega) hw 9 (by omega) l2 w h
 have IY:Hid (∀ w:World,Calls Tryz.prog 51 #[.bool true] w fun e w'=>e=.returned (.tuple #[])/\w'=w):=insist_yes
 have IN:Hid (∀ w:World,Calls Tryz.prog 51 #[.bool false] w fun e w'=>e=.panicked [refv]/\w'=w):=insist_no
 have H0:Hid (IsR w b W k):=h
 have lt0:=blk_lt h
 clear h
 have K0:Hid (Kb b w w):=Kb.refl _ _
 have A0:Hid (IsR w b W k):=H0.out
 have p0:=(hw k).1
 have p1:=(hw (k+1)).1
 have hl2:(W.at (k+1)=1\/W.at (k+1)=2\/W.at (k+1)=4\/W.at (k+1)=8)-> ¬ W.at k % W.at (k+1)=0:=fun z q=>hl ⟨l1,z,q⟩
 clear hw hl
 generalize W.at k=x at *
 generalize W.at (k+1)=y at *
 by_cases l3:y=1\/y=2\/y=4\/y=8
 . have l4:=hl2 l3
   clear hl2
   rcases l3 with rfl | rfl | rfl | rfl
   . exact absurd (Int.emod_one x) l4
   . have t0: ¬ x % 2=0:=l4
     have t1:(x % 2==0)=false:=by simp only [beq_eq_false_iff_ne];exact t0
     go_enter Tryz.func46,Tryz.ntmps46
     go_wp2_with fail
     refine (N1.out _ A0.out).mono ?_
     rintro e u1 ⟨rfl,h1,k1⟩
     have A1:Hid (IsR u1 b W (k+1)):=h1
     have K1:Hid (Kb b w u1):=K0.out.trans k1
     clear h1 k1 A0 K0
     go_wp2_with fail
     refine (N2.out _ A1.out).mono ?_
     rintro e u2 ⟨rfl,h1,k1⟩
     have A2:Hid (IsR u2 b W (k+1+1)):=h1
     have K2:Hid (Kb b w u2):=K1.out.trans k1
     clear h1 k1 A1 K1
     go_wp2_with fail
     refine (IY.out _).mono ?_
     rintro e u8 ⟨rfl,hu⟩
     have hu2:=hu.symm
     subst hu2
     go_wp2_with fail
     refine (IN.out _).mono ?_
     rintro e u8 ⟨rfl,hu⟩
     have hu2:=hu.symm
     subst hu2
     exact ⟨rfl,rfl,K2.out⟩
   . have t0: ¬ x % 4=0:=l4
     have t1:(x % 4==0)=false:=by simp only [beq_eq_false_iff_ne];exact t0
     go_enter Tryz.func46,Tryz.ntmps46
     go_wp2_with fail
     refine (N1.out _ A0.out).mono ?_
     rintro e u1 ⟨rfl,h1,k1⟩
     have A1:Hid (IsR u1 b W (k+1)):=h1
     have K1:Hid (Kb b w u1):=K0.out.trans k1
     clear h1 k1 A0 K0
     go_wp2_with fail
     refine (N2.out _ A1.out).mono ?_
     rintro e u2 ⟨rfl,h1,k1⟩
     have A2:Hid (IsR u2 b W (k+1+1)):=h1
     have K2:Hid (Kb b w u2):=K1.out.trans k1
     clear h1 k1 A1 K1
     go_wp2_with fail
     refine (IY.out _).mono ?_
     rintro e u8 ⟨rfl,hu⟩
     have hu2:=hu.symm
     subst hu2
     go_wp2_with fail
     refine (IN.out _).mono ?_
     rintro e u8 ⟨rfl,hu⟩
     have hu2:=hu.symm
     subst hu2
     exact ⟨rfl,rfl,K2.out⟩
   . have t0: ¬ x % 8=0:=l4
     have t1:(x % 8==0)=false:=by simp only [beq_eq_false_iff_ne];exact t0
     go_enter Tryz.func46,Tryz.ntmps46
     go_wp2_with fail
     refine (N1.out _ A0.out).mono ?_
     rintro e u1 ⟨rfl,h1,k1⟩
     have A1:Hid (IsR u1 b W (k+1)):=h1
     have K1:Hid (Kb b w u1):=K0.out.trans k1
     clear h1 k1 A0 K0
     go_wp2_with fail
     refine (N2.out _ A1.out).mono ?_
     rintro e u2 ⟨rfl,h1,k1⟩
     have A2:Hid (IsR u2 b W (k+1+1)):=h1
     have K2:Hid (Kb b w u2):=K1.out.trans k1
     clear h1 k1 A1 K1
     go_wp2_with fail
     refine (IY.out _).mono ?_
     rintro e u8 ⟨rfl,hu⟩
     have hu2:=hu.symm
     subst hu2
     go_wp2_with fail
     refine (IN.out _).mono ?_
     rintro e u8 ⟨rfl,hu⟩
     have hu2:=hu.symm
     subst hu2
     exact ⟨rfl,rfl,K2.out⟩
 . clear hl2
   have e1:(y==1)=false:=kg
   have e2:(y==2)=false:=kg
   have e4:(y==4)=false:=kg
   have e8:(y==8)=false:=kg
   have g1: ¬ y=1:=by omega
   have g2: ¬ y=2:=by omega
   have g4: ¬ y=4:=by omega
   have g8: ¬ y=8:=by omega
   go_enter Tryz.func46,Tryz.ntmps46
   go_wp2_with fail
   refine (N1.out _ A0.out).mono ?_
   rintro e u1 ⟨rfl,h1,k1⟩
   have A1:Hid (IsR u1 b W (k+1)):=h1
   have K1:Hid (Kb b w u1):=K0.out.trans k1
   clear h1 k1 A0 K0
   go_wp2_with fail
   refine (N2.out _ A1.out).mono ?_
   rintro e u2 ⟨rfl,h1,k1⟩
   have A2:Hid (IsR u2 b W (k+1+1)):=h1
   have K2:Hid (Kb b w u2):=K1.out.trans k1
   clear h1 k1 A1 K1
   go_wp2_with fail
   refine (IN.out _).mono ?_
   rintro e u8 ⟨rfl,hu⟩
   have hu2:=hu.symm
   subst hu2
   exact ⟨rfl,rfl,K2.out⟩
theorem sized_yes1 (b:Nat) (W:Wd) (k:Nat) (hk:k+1<=6) (hw:W.wf) (hl:W.at k<256) (w:World) (h:IsR w b W k):Calls Tryz.prog 47 #[.pointer (some ⟨b,0,none⟩),.int .i64 1] w fun e w'=>e=.returned (.int .u64 (W.at k))/\IsR w' b W (k+1)/\Kb b w w':=by
 have N1:Hid (∀ w:World,IsR w b W k->Calls Tryz.prog 50 #[.pointer (some ⟨b,0,none⟩)] w fun e w'=>e=.returned (.int .u64 (W.at k))/\IsR w' b W (k+1)/\Kb b w w'):=fun w h=>word_any b W k (by omega) w h
 have IY:Hid (∀ w:World,Calls Tryz.prog 51 #[.bool true] w fun e w'=>e=.returned (.tuple #[])/\w'=w):=insist_yes
 have H0:Hid (IsR w b W k):=h
 have lt0:=blk_lt h
 clear h
 have K0:Hid (Kb b w w):=Kb.refl _ _
 have A0:Hid (IsR w b W k):=H0.out
 have p0:=(hw k).1
 have p1:=(hw k).2
 clear hw
 generalize W.at k=x at *
 go_enter Tryz.func47,Tryz.ntmps47
 go_wp2_with fail
 refine (N1.out _ A0.out).mono ?_
 rintro e u1 ⟨rfl,h1,k1⟩
 have A1:Hid (IsR u1 b W (k+1)):=h1
 have K1:Hid (Kb b w u1):=K0.out.trans k1
 clear h1 k1 A0 K0
 have sh:x / 256=0:=Int.ediv_eq_zero_of_lt p0 (by omega)
 go_wp2_with fail
 refine (IY.out _).mono ?_
 rintro e u8 ⟨rfl,hu⟩
 have hu2:=hu.symm
 subst hu2
 go_wp2_with fail
 go_returns
 exact ⟨rfl,A1.out,K1.out⟩
theorem sized_no1 (b:Nat) (W:Wd) (k:Nat) (hk:k+1<=6) (hw:W.wf) (hl: ¬ W.at k<256) (w:World) (h:IsR w b W k):Calls Tryz.prog 47 #[.pointer (some ⟨b,0,none⟩),.int .i64 1] w fun e w'=>e=.panicked [refv]/\Kb b w w':=by
 have N1:Hid (∀ w:World,IsR w b W k->Calls Tryz.prog 50 #[.pointer (some ⟨b,0,none⟩)] w fun e w'=>e=.returned (.int .u64 (W.at k))/\IsR w' b W (k+1)/\Kb b w w'):=fun w h=>word_any b W k (by omega) w h
 have IN:Hid (∀ w:World,Calls Tryz.prog 51 #[.bool false] w fun e w'=>e=.panicked [refv]/\w'=w):=insist_no
 have H0:Hid (IsR w b W k):=h
 have lt0:=blk_lt h
 clear h
 have K0:Hid (Kb b w w):=Kb.refl _ _
 have A0:Hid (IsR w b W k):=H0.out
 have p0:=(hw k).1
 have p1:=(hw k).2
 clear hw
 generalize W.at k=x at *
 go_enter Tryz.func47,Tryz.ntmps47
 go_wp2_with fail
 refine (N1.out _ A0.out).mono ?_
 rintro e u1 ⟨rfl,h1,k1⟩
 have A1:Hid (IsR u1 b W (k+1)):=h1
 have K1:Hid (Kb b w u1):=K0.out.trans k1
 clear h1 k1 A0 K0
 have sh:0<x / 256:=by omega
 have sh2: ¬ x / 256=0:=by omega
 have sh3:(x / 256==0)=false:=by simp [sh2]
 go_wp2_with fail
 refine (IN.out _).mono ?_
 rintro e u8 ⟨rfl,hu⟩
 have hu2:=hu.symm
 subst hu2
 exact ⟨rfl,rfl,K1.out⟩
theorem sized_yes2 (b:Nat) (W:Wd) (k:Nat) (hk:k+1<=6) (hw:W.wf) (hl:W.at k<65536) (w:World) (h:IsR w b W k):Calls Tryz.prog 47 #[.pointer (some ⟨b,0,none⟩),.int .i64 2] w fun e w'=>e=.returned (.int .u64 (W.at k))/\IsR w' b W (k+1)/\Kb b w w':=by
 have N1:Hid (∀ w:World,IsR w b W k->Calls Tryz.prog 50 #[.pointer (some ⟨b,0,none⟩)] w fun e w'=>e=.returned (.int .u64 (W.at k))/\IsR w' b W (k+1)/\Kb b w w'):=fun w h=>word_any b W k (by omega) w h
 have IY:Hid (∀ w:World,Calls Tryz.prog 51 #[.bool true] w fun e w'=>e=.returned (.tuple #[])/\w'=w):=insist_yes
 have H0:Hid (IsR w b W k):=h
 have lt0:=blk_lt h
 clear h
 have K0:Hid (Kb b w w):=Kb.refl _ _
 have A0:Hid (IsR w b W k):=H0.out
 have p0:=(hw k).1
 have p1:=(hw k).2
 clear hw
 generalize W.at k=x at *
 go_enter Tryz.func47,Tryz.ntmps47
 go_wp2_with fail
 refine (N1.out _ A0.out).mono ?_
 rintro e u1 ⟨rfl,h1,k1⟩
 have A1:Hid (IsR u1 b W (k+1)):=h1
 have K1:Hid (Kb b w u1):=K0.out.trans k1
 clear h1 k1 A0 K0
 have sh:x / 65536=0:=Int.ediv_eq_zero_of_lt p0 (by omega)
 go_wp2_with fail
 refine (IY.out _).mono ?_
 rintro e u8 ⟨rfl,hu⟩
 have hu2:=hu.symm
 subst hu2
 go_wp2_with fail
 go_returns
 exact ⟨rfl,A1.out,K1.out⟩
theorem sized_no2 (b:Nat) (W:Wd) (k:Nat) (hk:k+1<=6) (hw:W.wf) (hl: ¬ W.at k<65536) (w:World) (h:IsR w b W k):Calls Tryz.prog 47 #[.pointer (some ⟨b,0,none⟩),.int .i64 2] w fun e w'=>e=.panicked [refv]/\Kb b w w':=by
 have N1:Hid (∀ w:World,IsR w b W k->Calls Tryz.prog 50 #[.pointer (some ⟨b,0,none⟩)] w fun e w'=>e=.returned (.int .u64 (W.at k))/\IsR w' b W (k+1)/\Kb b w w'):=fun w h=>word_any b W k (by omega) w h
 have IN:Hid (∀ w:World,Calls Tryz.prog 51 #[.bool false] w fun e w'=>e=.panicked [refv]/\w'=w):=insist_no
 have H0:Hid (IsR w b W k):=h
 have lt0:=blk_lt h
 clear h
 have K0:Hid (Kb b w w):=Kb.refl _ _
 have A0:Hid (IsR w b W k):=H0.out
 have p0:=(hw k).1
 have p1:=(hw k).2
 clear hw
 generalize W.at k=x at *
 go_enter Tryz.func47,Tryz.ntmps47
 go_wp2_with fail
 refine (N1.out _ A0.out).mono ?_
 rintro e u1 ⟨rfl,h1,k1⟩
 have A1:Hid (IsR u1 b W (k+1)):=h1
 have K1:Hid (Kb b w u1):=K0.out.trans k1
 clear h1 k1 A0 K0
 have sh:0<x / 65536:=by omega
 have sh2: ¬ x / 65536=0:=by omega
 have sh3:(x / 65536==0)=false:=by simp [sh2]
 go_wp2_with fail
 refine (IN.out _).mono ?_
 rintro e u8 ⟨rfl,hu⟩
 have hu2:=hu.symm
 subst hu2
 exact ⟨rfl,rfl,K1.out⟩
theorem sized_yes4 (b:Nat) (W:Wd) (k:Nat) (hk:k+1<=6) (hw:W.wf) (hl:W.at k<4294967296) (w:World) (h:IsR w b W k):Calls Tryz.prog 47 #[.pointer (some ⟨b,0,none⟩),.int .i64 4] w fun e w'=>e=.returned (.int .u64 (W.at k))/\IsR w' b W (k+1)/\Kb b w w':=by
 have N1:Hid (∀ w:World,IsR w b W k->Calls Tryz.prog 50 #[.pointer (some ⟨b,0,none⟩)] w fun e w'=>e=.returned (.int .u64 (W.at k))/\IsR w' b W (k+1)/\Kb b w w'):=fun w h=>word_any b W k (by omega) w h
 have IY:Hid (∀ w:World,Calls Tryz.prog 51 #[.bool true] w fun e w'=>e=.returned (.tuple #[])/\w'=w):=insist_yes
 have H0:Hid (IsR w b W k):=h
 have lt0:=blk_lt h
 clear h
 have K0:Hid (Kb b w w):=Kb.refl _ _
 have A0:Hid (IsR w b W k):=H0.out
 have p0:=(hw k).1
 have p1:=(hw k).2
 clear hw
 generalize W.at k=x at *
 go_enter Tryz.func47,Tryz.ntmps47
 go_wp2_with fail
 refine (N1.out _ A0.out).mono ?_
 rintro e u1 ⟨rfl,h1,k1⟩
 have A1:Hid (IsR u1 b W (k+1)):=h1
 have K1:Hid (Kb b w u1):=K0.out.trans k1
 clear h1 k1 A0 K0
 have sh:x / 4294967296=0:=Int.ediv_eq_zero_of_lt p0 (by omega)
 go_wp2_with fail
 refine (IY.out _).mono ?_
 rintro e u8 ⟨rfl,hu⟩
 have hu2:=hu.symm
 subst hu2
 go_wp2_with fail
 go_returns
 exact ⟨rfl,A1.out,K1.out⟩
theorem sized_no4 (b:Nat) (W:Wd) (k:Nat) (hk:k+1<=6) (hw:W.wf) (hl: ¬ W.at k<4294967296) (w:World) (h:IsR w b W k):Calls Tryz.prog 47 #[.pointer (some ⟨b,0,none⟩),.int .i64 4] w fun e w'=>e=.panicked [refv]/\Kb b w w':=by
 have N1:Hid (∀ w:World,IsR w b W k->Calls Tryz.prog 50 #[.pointer (some ⟨b,0,none⟩)] w fun e w'=>e=.returned (.int .u64 (W.at k))/\IsR w' b W (k+1)/\Kb b w w'):=fun w h=>word_any b W k (by omega) w h
 have IN:Hid (∀ w:World,Calls Tryz.prog 51 #[.bool false] w fun e w'=>e=.panicked [refv]/\w'=w):=insist_no
 have H0:Hid (IsR w b W k):=h
 have lt0:=blk_lt h
 clear h
 have K0:Hid (Kb b w w):=Kb.refl _ _
 have A0:Hid (IsR w b W k):=H0.out
 have p0:=(hw k).1
 have p1:=(hw k).2
 clear hw
 generalize W.at k=x at *
 go_enter Tryz.func47,Tryz.ntmps47
 go_wp2_with fail
 refine (N1.out _ A0.out).mono ?_
 rintro e u1 ⟨rfl,h1,k1⟩
 have A1:Hid (IsR u1 b W (k+1)):=h1
 have K1:Hid (Kb b w u1):=K0.out.trans k1
 clear h1 k1 A0 K0
 have sh:0<x / 4294967296:=by omega
 have sh2: ¬ x / 4294967296=0:=by omega
 have sh3:(x / 4294967296==0)=false:=by simp [sh2]
 go_wp2_with fail
 refine (IN.out _).mono ?_
 rintro e u8 ⟨rfl,hu⟩
 have hu2:=hu.symm
 subst hu2
 exact ⟨rfl,rfl,K1.out⟩
theorem sized_yes8 (b:Nat) (W:Wd) (k:Nat) (hk:k+1<=6) (hw:W.wf) (hl:W.at k<18446744073709551616) (w:World) (h:IsR w b W k):Calls Tryz.prog 47 #[.pointer (some ⟨b,0,none⟩),.int .i64 8] w fun e w'=>e=.returned (.int .u64 (W.at k))/\IsR w' b W (k+1)/\Kb b w w':=by
 have N1:Hid (∀ w:World,IsR w b W k->Calls Tryz.prog 50 #[.pointer (some ⟨b,0,none⟩)] w fun e w'=>e=.returned (.int .u64 (W.at k))/\IsR w' b W (k+1)/\Kb b w w'):=fun w h=>word_any b W k (by omega) w h
 have IY:Hid (∀ w:World,Calls Tryz.prog 51 #[.bool true] w fun e w'=>e=.returned (.tuple #[])/\w'=w):=insist_yes
 have H0:Hid (IsR w b W k):=h
 have lt0:=blk_lt h
 clear h
 have K0:Hid (Kb b w w):=Kb.refl _ _
 have A0:Hid (IsR w b W k):=H0.out
 have p0:=(hw k).1
 have p1:=(hw k).2
 clear hw
 generalize W.at k=x at *
 go_enter Tryz.func47,Tryz.ntmps47
 go_wp2_with fail
 refine (N1.out _ A0.out).mono ?_
 rintro e u1 ⟨rfl,h1,k1⟩
 have A1:Hid (IsR u1 b W (k+1)):=h1
 have K1:Hid (Kb b w u1):=K0.out.trans k1
 clear h1 k1 A0 K0
 have sh:x / 18446744073709551616=0:=Int.ediv_eq_zero_of_lt p0 (by omega)
 go_wp2_with fail
 refine (IY.out _).mono ?_
 rintro e u8 ⟨rfl,hu⟩
 have hu2:=hu.symm
 subst hu2
 go_wp2_with fail
 go_returns
 exact ⟨rfl,A1.out,K1.out⟩
structure Cl where
 op:Int
 fr:Int
 til:Int
 pw:Bool
 pu:Bool
 px:Bool
 ad:Int
 sz:Int
 x:Int
 id:Int
 a:Int
 b:Int
 d:Int
abbrev Cl.val (c:Cl):Value:=.agg (sq c.op c.fr c.til c.pw c.pu c.px c.ad c.sz c.x c.id c.a c.b c.d)
def Cl.zero:Cl:=⟨0,0,0,false,false,false,0,0,0,0,0,0,0⟩
theorem call_info:(Tryz.prog.info? 70).map (·.size)=some 13:=kc
end
end Go.Proofs.YtokpmclmdobgeaaGreat.Ca
