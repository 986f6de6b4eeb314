import Derived.Test.YtokpmclmdobgeaaGreatJXa
import Derived.Test.YtokpmclmdobgeaaGreatFWa
import Derived.Deep.Slices
import Derived.Test.YtokpmclmdobgeaaGreatJMa
set_option linter.unusedSimpArgs false
set_option linter.unusedVariables false
set_option maxRecDepth 8000
set_option maxHeartbeats 2000000
open Go.ChangeShapes Go.WideShapes Go.ChangeAt Go.RowKit Go.Maps
namespace Go.Proofs.YtokpmclmdobgeaaGreat.Fl
def DoIs (D:Ca.Wd) (s:Sa) (r:Value) (s':Sa):Prop:= ∀ (O:Nat->Nat) (u:Nat) (W:World) (M:Mb) (root:Int),u<=1000->Is O (1+400000*u) W M root s->Calls Tryz.prog 7 #[pp M.mb,D.val] W fun e w'=>e=.returned r/\Tx O W (fun O' V=>Is O' (1+400000*(u+1)) V M root s') w'
def Rv (i X E fa fc:Int) (up:Bool):Value:=.agg (sw i X E fa fc up)
theorem tx_more {O:Nat->Nat} {u:Nat} {W:World} {M:Mb} {root:Int} {s:Sa} {w':World} (h:Tx O W (fun O' V=>Is O' (1+400000*u+400000) V M root s) w'):Tx O W (fun O' V=>Is O' (1+400000*(u+1)) V M root s) w':=by
 rw [show 1+400000*(u+1)=1+400000*u+400000 by omega];exact h
theorem do_srv {s s':Sa} {i:Nat} (hQ:Ca.nowV s.Q.L=(i:Nat)) {D:Ca.Wd} (hD:D.wf) {c:Ca.Cl} (hc:Ca.Says D c) {X E fa fc:Int} {up:Bool} (hS: ∀ M root,Srv M root i c s (Ro X E fa fc up) s'):DoIs D s (Rv i X E fa fc up) s':=fun O u W M root hu h =>
 Calls.mono (h.do (by omega) i hQ D hD c hc X E fa fc up s' (hS M root)) (by
  rintro e w' ⟨rfl,hx⟩
  exact ⟨rfl,tx_more hx⟩)
theorem Inv.front {rk:Nat->Nat} {s:Sa} (h:Inv rk s): ∃ i:Nat,i<16/\Ca.nowV s.Q.L=(i:Nat)/\s.A i≠none:=by
 have z:=(h.inw.who 0).2 h.inw.zero
 cases e:s.Q.L with
 | nil => rw [e] at z; cases z
 | cons x r =>
  have m:x∈s.Q.L:=by rw [e];exact List.mem_cons_self
  have b:=h.inw.good.who x m
  refine ⟨x.toNat,by omega,by show x=_;omega,(h.inw.who x.toNat).1 ?_⟩
  rw [show ((x.toNat:Nat):Int)=x by omega];exact m
theorem do_all {rk:Nat->Nat} {t:Nat} {s:Sa} (h:Inv rk s) (ht:Cn t s.I) (t59:t<=59) {D:Ca.Wd} (hD:D.wf): ∃ (i X E fa fc:Int) (up:Bool) (s':Sa),(∃ rk',Inv rk' s')/\Cn (t+1) s'.I/\DoIs D s (Rv i X E fa fc up) s':=by
 obtain ⟨i,i16,hQ,hA⟩:=h.front
 by_cases hc: ∃ c,Ca.Says D c
 . obtain ⟨c,hc⟩:=hc
   obtain ⟨n,h1,_⟩:=id hc
   obtain ⟨X,E,fa,fc,up,s',rk',q1,q2,q3⟩:=go_any h ht (by omega) i16 hA hD (Ca.case_of h1) (fun _=>t59)
   exact ⟨i,X,E,fa,fc,up,s',⟨rk',q2⟩,q3.more (by split <;> omega),do_srv hQ hD hc q1⟩
 . refine ⟨i,0,13,0,0,false,s,⟨rk,h⟩,ht.more (by omega),fun O u W M root hu hI=>Calls.mono (hI.do_bad i hQ D hD hc) ?_⟩
   rintro e w' ⟨rfl,hx⟩
   exact ⟨rfl,tx_more hx⟩
theorem z_at (j:Nat):Sh.zT j=Sh.Gr.zero:=rfl
theorem z_tk: ∀ n,tkL Sh.zT n=[]
 | 0 => rfl
 | n + 1 => by rw [tkL, z_tk n, z_at, tk_zero]; rfl
theorem z_ct: ∀ n,ctI Sh.zT n=0
 | 0 => rfl
 | n + 1 => by rw [ctI, z_ct n, z_at, wt_zero]
theorem boot_cn (u t q:Int):Cn 0 (bootS u t q).I:=fun n _=>Nat.le_of_eq (z_ct n)
def P0:Pr:=⟨0,0,0,0,1,Tr.St.zero,none,0,[],fun _=>none,fun _ _=>none⟩
theorem Inv.boot (u t q:Int) (t0:0<=t) (tu:t+1<=u) (q0:1<=q) (q1:q<=1000):Inv (fun _=>0) (bootS u t q):=by
 have eA:(bootS u t q).A=setA (fun _=>none) 0 (some P0):=rfl
 have eI:(bootS u t q).I=Sh.zT:=rfl
 have eQ:(bootS u t q).Q=⟨q,0,[0]⟩:=rfl
 have a0: ∀ j,(bootS u t q).A j≠none↔j=0:=fun j=>by
  rw [eA]
  by_cases c:j=0
  . subst c;rw [setA_same];simp
  . rw [setA_other _ _ _ _ c];simp [c]
 have an: ∀ j P,(bootS u t q).A j=some P->j=0/\P=P0:=fun j P e=>by
  have c:j=0:=(a0 j).1 (by rw [e];simp)
  subst c
  rw [eA,setA_same] at e
  exact ⟨rfl,(sia e).symm⟩
 have z:u64B 0:=⟨by omega,by omega⟩
 have wn:Ways [] P0.F P0.G:=by
  refine ⟨List.nodup_nil,fun p=> ?_,fun y=>rfl,fun y=>rfl,fun y=>rfl⟩
  exact ⟨fun h=>absurd h List.not_mem_nil,fun h=>absurd rfl h⟩
 have pn:Pok P0:=by
  refine ⟨⟨trivial,by show (0:Int)<=_;omega⟩,⟨[],wn⟩,fun p hp=>absurd rfl hp,⟨fun k hk=> ?_,z,z,z,z,z⟩⟩
  rcases (by omega:k=0\/k=1\/k=2\/k=3) with e | e | e | e <;> (subst e;exact z)
 have tr:(Qo.getN (bootS u t q).T 1).used=1/\(Qo.getN (bootS u t q).T 1).live=true:=by
  show (Qo.getN (Qo.chargeT (kidT (Qo.chargeT (Qo.rootT u) 0 t) (u-t)) 1 1) 1).used=1/\(Qo.getN (Qo.chargeT (kidT (Qo.chargeT (Qo.rootT u) 0 t) (u-t)) 1 1) 1).live=true
  generalize Qo.chargeT (Qo.rootT u) 0 t=T1
  have k1:kidT T1 (u-t) 1=Qo.Nd.new 0 (u-t):=by unfold kidT;rw [Qo.put_other _ _ _ _ (by omega),Qo.put_same]
  have g:Qo.getN (kidT T1 (u-t)) 1=Qo.Nd.new 0 (u-t):=by unfold Qo.getN;rw [if_pos ⟨by omega,by omega⟩];exact k1
  have km:Qo.mayN (kidT T1 (u-t)) 1 1=0:=by
   unfold Qo.mayN
   rw [g,if_neg (by simp [Qo.Nd.new]),if_neg (by omega),if_neg (by simp [Qo.Nd.room,Qo.Nd.new];omega)]
  have r:=charge_at km
  rw [g] at r
  exact ⟨r.1,r.2⟩
 have ac:Acc (bootS u t q).T (bootS u t q).A:=by
  refine ⟨fun j P e=> ?_,fun i j P R e1 e2 _=>by rw [(an i P e1).1,(an j R e2).1]⟩
  obtain ⟨_,rfl⟩:=an j P e
  exact ⟨fun p hp=>(nomatch hp),tr.2,[],wn,tr.1⟩
 refine ⟨⟨?_,fun j=> ?_,fun j hj=> ?_,(a0 0).2 rfl,fun j P e=> ?_,fun k hk hi=> ?_,⟨fun _=>0,fun j P e j0=>absurd (an j P e).1 j0⟩,ac⟩,fun j P e=> ?_,?_⟩
 . rw [eQ]
   have wh: ∀ x∈[(0:Int)],0<=x/\x<16:=fun x hx=>by
    have:x=0:=by simpa using hx
    omega
   exact ⟨q0,q1,(by show (0:Int)<=0;omega),(by show (0:Int)<q;omega),(by simp),wh,fun h=>(nomatch h)⟩
 . rw [eQ,a0 j]
   show (j:Int)∈[0]↔_
   rw [List.mem_singleton];omega
 . exact bca fun c=>by have:=(a0 j).1 c;omega
 . rw [(an j P e).2];exact pn
 . rw [eI,z_at] at hi;cases hi
 . obtain ⟨rfl,rfl⟩:=an j P e
   exact Or.inl ⟨rfl,rfl⟩
 . rw [eI,z_tk]
   exact ⟨fun g hg=>absurd hg List.not_mem_nil,List.nodup_nil,fun j P e=>by rw [(an j P e).2];show 0+0<=94;omega⟩
structure Tri (w V:World) (X Y Z:Mb) (root:Int) (u:Nat) (a b c:Sa) (Ox Oy Oz:Nat->Nat):Prop where
 x:Is Ox (1+400000*u) V X root a
 y:Is Oy (1+400000*u) V Y root b
 z:Is Oz (1+400000*u) V Z root c
 xy: ∀ j,Ox j≠0->Oy j=0
 yz: ∀ j,Oy j≠0->Oz j=0
 zx: ∀ j,Oz j≠0->Ox j=0
 bel:bc w V
 ox: ∀ j,j<w.heap.size->Ox j=0
 oy: ∀ j,j<w.heap.size->Oy j=0
 oz: ∀ j,j<w.heap.size->Oz j=0
def TR (w V:World) (X Y Z:Mb) (root:Int) (u:Nat) (a b c:Sa):Prop:= ∃ Ox Oy Oz,Tri w V X Y Z root u a b c Ox Oy Oz
section
variable {w V:World} {X Y Z:Mb} {root:Int} {u:Nat}
theorem TR.rot {a b c:Sa} (h:TR w V X Y Z root u a b c):TR w V Y Z X root u b c a:=by
 obtain ⟨Ox,Oy,Oz,h⟩:=h
 exact ⟨Oy,Oz,Ox,h.y,h.z,h.x,h.yz,h.zx,h.xy,h.bel,h.oy,h.oz,h.ox⟩
theorem TR.bel {a b c:Sa} (h:TR w V X Y Z root u a b c):bc w V:=by obtain ⟨Ox,Oy,Oz,h⟩:=h;exact h.bel
theorem TR.below {w V V':World} {X Y Z:Mb} {root:Int} {u:Nat} {a b c:Sa} (h:TR w V X Y Z root u a b c) (hb:bc V V'):TR w V' X Y Z root u a b c:=by
 obtain ⟨Ox,Oy,Oz,h⟩:=h
 exact ⟨Ox,Oy,Oz,h.x.below hb,h.y.below hb,h.z.below hb,h.xy,h.yz,h.zx,below_then h.bel hb,h.ox,h.oy,h.oz⟩
theorem TR.on {w V V':World} {X Y Z:Mb} {root:Int} {u:Nat} {a b c a':Sa} {Ox Oy Oz:Nat->Nat} (h:Tri w V X Y Z root u a b c Ox Oy Oz) (hx:Tx Ox V (fun O' V=>Is O' (1+400000*(u+1)) V X root a') V'):TR w V' X Y Z root (u+1) a' b c:=by
 obtain ⟨O',m,e1,e2,k⟩:=hx
 have kb: ∀ j,Ox j=0->j<V.heap.size->V'.heap[j]? =V.heap[j]? :=fun j h1 h2=>k.block j ⟨h1,h2⟩
 have xz: ∀ j,Oz j≠0->Ox j=0:=h.zx
 have xy': ∀ j,Oy j≠0->Ox j=0:=fun j hj=>Decidable.byContradiction fun q=>hj (h.xy j q)
 have ly:=h.y.lt
 have lz:=h.z.lt
 refine ⟨O',Oy,Oz,m,((Is.sta _ _ _ _) _ _ _ h.y k.size fun j hj=>kb j (xy' j hj) (ly j hj)).more (by omega),((Is.sta _ _ _ _) _ _ _ h.z k.size fun j hj=>kb j (xz j hj) (lz j hj)).more (by omega),fun j hj=> ?_,h.yz,fun j hj=> ?_,?_,fun j hj=> ?_,h.oy,h.oz⟩
 . by_cases c:j<V.heap.size
   . rw [e1 j c] at hj;exact h.xy j hj
   . exact Decidable.byContradiction fun q=>c (ly j q)
 . rw [e1 j (lz j hj)];exact h.zx j hj
 . exact ⟨k.os.trans h.bel.os,k.tape.trans h.bel.tape,k.output.trans h.bel.output,Nat.le_trans h.bel.size k.size,fun j hj=>(kb j (h.ox j hj) (nla hj h.bel.size)).trans (h.bel.block j hj)⟩
 . rw [e1 j (nla hj h.bel.size)];exact h.ox j hj
theorem TR.do {a b c a':Sa} {D:Ca.Wd} {r:Value} (h:TR w V X Y Z root u a b c) (hu:u<=1000) (d:DoIs D a r a'):Calls Tryz.prog 7 #[pp X.mb,D.val] V fun e w'=>e=.returned r/\TR w w' X Y Z root (u+1) a' b c:=by
 obtain ⟨Ox,Oy,Oz,h⟩:=h
 refine Calls.mono (d Ox u V X root hu h.x) ?_
 rintro e w' ⟨rfl,hx⟩
 exact ⟨rfl,TR.on h hx⟩
theorem TR.tick {a b c:Sa} (h:TR w V X Y Z root u a b c) (g:Ca.Good a.Q):Calls Tryz.prog 8 #[pp X.mb] V fun e w'=>e=.returned (.tuple #[.bool (Ca.tckB a.Q),.int .i64 0])/\TR w w' X Y Z root (u+1) { a with Q:=Ca.tckS a.Q } b c:=by
 obtain ⟨Ox,Oy,Oz,h⟩:=h
 refine Calls.mono (h.x.tick g) ?_
 rintro e w' ⟨rfl,hx⟩
 exact ⟨rfl,TR.on h (tx_more hx)⟩
theorem TR.line {a b c:Sa} (h:TR w V X Y Z root u a b c):Calls Tryz.prog 10 #[pp X.mb] V fun e w'=>(∃ p c,e=.returned (.slice p a.Q.L.length c)/\Ca.IsI w' p a.Q.L V.heap.size)/\bc V w':=by
 obtain ⟨Ox,Oy,Oz,h⟩:=h
 exact h.x.line
def T1 (w V:World) (X:Mb) (root:Int) (a:Sa):Prop:= ∃ Ox,Is Ox 1 V X root a/\(∀ j,j<w.heap.size->Ox j=0)/\bc w V
def T2 (w V:World) (X Y:Mb) (root:Int) (a b:Sa):Prop:= ∃ Ox Oy,Is Ox 1 V X root a/\Is Oy 1 V Y root b/\(∀ j,Ox j≠0->Oy j=0)/\(∀ j,j<w.heap.size->Ox j=0)/\(∀ j,j<w.heap.size->Oy j=0)/\bc w V
theorem boot1 (u:Int) (u0:3<=u) (u1:u<=1048576) (w:World):Calls Tryz.prog 6 #[.int .i64 u,.int .i64 2,.int .i64 2] w fun e w'=> ∃ X:Mb,e=.returned (.tuple #[pp X.mb,.int .i64 0])/\T1 w w' X u (bootS u 2 2):=by
 refine Calls.mono (Is.boot u 2 2 (by omega) (by omega) u1 (by omega) (by omega) w) ?_
 rintro e w' ⟨O,M,rfl,m,o,hb⟩
 exact ⟨M,rfl,O,m,o,hb⟩
theorem boot2 {w V:World} {X:Mb} {a:Sa} (u:Int) (u0:3<=u) (u1:u<=1048576) (h:T1 w V X u a):Calls Tryz.prog 6 #[.int .i64 u,.int .i64 2,.int .i64 2] V fun e w'=> ∃ Y:Mb,e=.returned (.tuple #[pp Y.mb,.int .i64 0])/\T2 w w' X Y u a (bootS u 2 2):=by
 obtain ⟨Ox,h1,h2,h3⟩:=h
 refine Calls.mono (Is.boot u 2 2 (by omega) (by omega) u1 (by omega) (by omega) V) ?_
 rintro e w' ⟨O,M,rfl,m,o,hb⟩
 exact ⟨M,rfl,Ox,O,h1.below hb,m,fun j hj=>o j (h1.lt j hj),h2,fun j hj=>o j (nla hj h3.size),below_then h3 hb⟩
theorem boot3 {w V:World} {X Y:Mb} {a b:Sa} (u:Int) (u0:3<=u) (u1:u<=1048576) (h:T2 w V X Y u a b):Calls Tryz.prog 6 #[.int .i64 u,.int .i64 2,.int .i64 2] V fun e w'=> ∃ Z:Mb,e=.returned (.tuple #[pp Z.mb,.int .i64 0])/\TR w w' X Y Z u 0 a b (bootS u 2 2):=by
 obtain ⟨Ox,Oy,h1,h2,h3,h4,h5,h6⟩:=h
 refine Calls.mono (Is.boot u 2 2 (by omega) (by omega) u1 (by omega) (by omega) V) ?_
 rintro e w' ⟨O,M,rfl,m,o,hb⟩
 exact ⟨M,rfl,Ox,Oy,O,h1.below hb,h2.below hb,m,h3,fun j hj=>o j (h2.lt j hj),fun j hj=>Decidable.byContradiction fun q=>hj (o j (h1.lt j q)),below_then h6 hb,h4,h5,fun j hj=>o j (nla hj h6.size)⟩
def ON (w V:World) (X:Mb) (root:Int) (u:Nat) (s:Sa):Prop:= ∃ O,Is O (1+400000*u) V X root s/\(∀ j,j<w.heap.size->O j=0)/\bc w V
def Hld (t:Nat) (s:Sa):Prop:=(∃ rk,Inv rk s)/\Cn t s.I
theorem Hld.boot (u:Int) (u0:3<=u):Hld 0 (bootS u 2 2):=⟨⟨_,Inv.boot u 2 2 (by omega) (by omega) (by omega) (by omega)⟩,boot_cn u 2 2⟩
theorem Hld.tick {t:Nat} {s:Sa} (h:Hld t s):Hld (t+1) { s with Q:=Ca.tckS s.Q }:=by
 obtain ⟨⟨rk,h⟩,c⟩:=h
 exact ⟨⟨rk,h.tick⟩,c.more (by omega)⟩
theorem Hld.good {t:Nat} {s:Sa} (h:Hld t s):Ca.Good s.Q:=by
 obtain ⟨⟨rk,h⟩,c⟩:=h
 exact h.inw.good
theorem Hld.do {t:Nat} {s:Sa} (h:Hld t s) (t59:t<=59) {D:Ca.Wd} (hD:D.wf): ∃ (i X E fa fc:Int) (up:Bool) (s':Sa),Hld (t+1) s'/\DoIs D s (Rv i X E fa fc up) s':=by
 obtain ⟨⟨rk,h⟩,c⟩:=h
 obtain ⟨i,X,E,fa,fc,up,s',h1,h2,h3⟩:=do_all h c t59 hD
 exact ⟨i,X,E,fa,fc,up,s',⟨h1,h2⟩,h3⟩
theorem Hld.more {t t':Nat} {s:Sa} (h:Hld t s) (e:t<=t'):Hld t' s:=⟨h.1,h.2.more e⟩
theorem lit_wf {x0 x1 x2 x3 x4 x5:Int} (h0:0<=x0/\x0<18446744073709551616) (h1:0<=x1/\x1<18446744073709551616) (h2:0<=x2/\x2<18446744073709551616) (h3:0<=x3/\x3<18446744073709551616) (h4:0<=x4/\x4<18446744073709551616) (h5:0<=x5/\x5<18446744073709551616):(⟨x0,x1,x2,x3,x4,x5⟩:Ca.Wd).wf:=fun k=>by
 match k with
 | 0 => exact h0
 | 1 => exact h1
 | 2 => exact h2
 | 3 => exact h3
 | 4 => exact h4
 | 5 => exact h5
 | n + 6 => exact ⟨by show (0 : Int) ≤ 0; omega, by show (0 : Int) < _; omega⟩
def W2 (p:Int):Ca.Wd:=⟨2,p,65536,0,0,0⟩
def C2 (p:Int):Ca.Cl:=⟨2,p,p+65536,false,false,false,0,0,0,0,0,0,0⟩
def far (s:Sa) (m:Nat):Nat:=2*lvA s.A m+if Ca.nowV s.Q.L=0 then 1 else 0
end
end Go.Proofs.YtokpmclmdobgeaaGreat.Fl
namespace Go.Proofs.YtokpmclmdobgeaaGreat.Fl
open Ca (cell_of cellsU wf_u64 wd_wf)
theorem cellsB:Tryz.prog.cellsOf 4=1:=kc
theorem lt_of_cellS {w:World} {a:Addr} {v:Value} (h:w.cell? a=some v):a.block<w.heap.size:=by
 unfold World.cell? at h
 by_cases c:a.block<w.heap.size
 . exact c
 . rw [Array.getElem?_eq_none (by omega)] at h
   simp at h
structure Sp where
 tk:Bool
 x0:Int
 x1:Int
 x2:Int
 x3:Int
 x4:Int
 x5:Int
def Sp.wd (s:Sp):Ca.Wd:=⟨s.x0,s.x1,s.x2,s.x3,s.x4,s.x5⟩
theorem open_steps_cells:Tryz.prog.cellsOf 32=7:=kc
section
variable {H:Type} {enc:TypeId × Value->H} {W:World} {base:Nat} {sp:Nat->Bool} {held:Bool}
theorem words_c6 {x:DataW H} {ps:List MemPlace} {fuel:Nat} {cs:List Value} (hf:DataW.trod enc Tryz.prog W base sp held fuel 30 cs=some (x,ps)) (hl:cs.length=6) :
 ∃ (a0:Int) (a1:Int) (a2:Int) (a3:Int) (a4:Int) (a5:Int),cs=(sj1 a0 a1 a2 a3 a4 a5)/\(Lit.int .u64 a0).wf=true/\(Lit.int .u64 a1).wf=true/\(Lit.int .u64 a2).wf=true/\(Lit.int .u64 a3).wf=true/\(Lit.int .u64 a4).wf=true/\(Lit.int .u64 a5).wf=true/\True:=by
 obtain ⟨c0,c1,c2,c3,c4,c5,hcs⟩: ∃ c0 c1 c2 c3 c4 c5,cs=[c0,c1,c2,c3,c4,c5]:=by
  revert hl
  match cs with
  | [c0, c1, c2, c3, c4, c5] => intro _; exact ⟨c0, c1, c2, c3, c4, c5, rfl⟩
  | [] => intro q; cases q
  | [_] => intro q; cases q
  | [_, _] => intro q; cases q
  | [_, _, _] => intro q; cases q
  | [_, _, _, _] => intro q; cases q
  | [_, _, _, _, _] => intro q; cases q
  | _ :: _ :: _ :: _ :: _ :: _ :: _ :: _ => intro q; simp at q
 subst hcs
 obtain ⟨zs,m,_,_,jl,jlen,jf⟩:=DataW.trod_array Tryz.underlying30 hf
 have jg: ∀ i,i<6-> ∃ y,zs[i]? =some y:=fun i hi=>⟨_,List.getElem?_eq_getElem (by rw [jlen];exact hi)⟩
 obtain ⟨⟨z0a,z0b⟩,m0⟩:=jg 0 (by omega)
 obtain ⟨b0,e0,_,w0⟩:=DataW.trod_int Tryz.underlying28 ((jf 0 (by omega)).trans m0)
 obtain rfl:=cell_of cellsU e0 (c:=c0) (by first | rfl | (rw [cellsU];rfl))
 obtain ⟨⟨z1a,z1b⟩,m1⟩:=jg 1 (by omega)
 obtain ⟨b1,e1,_,w1⟩:=DataW.trod_int Tryz.underlying28 ((jf 1 (by omega)).trans m1)
 obtain rfl:=cell_of cellsU e1 (c:=c1) (by first | rfl | (rw [cellsU];rfl))
 obtain ⟨⟨z2a,z2b⟩,m2⟩:=jg 2 (by omega)
 obtain ⟨b2,e2,_,w2⟩:=DataW.trod_int Tryz.underlying28 ((jf 2 (by omega)).trans m2)
 obtain rfl:=cell_of cellsU e2 (c:=c2) (by first | rfl | (rw [cellsU];rfl))
 obtain ⟨⟨z3a,z3b⟩,m3⟩:=jg 3 (by omega)
 obtain ⟨b3,e3,_,w3⟩:=DataW.trod_int Tryz.underlying28 ((jf 3 (by omega)).trans m3)
 obtain rfl:=cell_of cellsU e3 (c:=c3) (by first | rfl | (rw [cellsU];rfl))
 obtain ⟨⟨z4a,z4b⟩,m4⟩:=jg 4 (by omega)
 obtain ⟨b4,e4,_,w4⟩:=DataW.trod_int Tryz.underlying28 ((jf 4 (by omega)).trans m4)
 obtain rfl:=cell_of cellsU e4 (c:=c4) (by first | rfl | (rw [cellsU];rfl))
 obtain ⟨⟨z5a,z5b⟩,m5⟩:=jg 5 (by omega)
 obtain ⟨b5,e5,_,w5⟩:=DataW.trod_int Tryz.underlying28 ((jf 5 (by omega)).trans m5)
 obtain rfl:=cell_of cellsU e5 (c:=c5) (by first | rfl | (rw [cellsU];rfl))
 exact ⟨_,_,_,_,_,_,rfl,w0,w1,w2,w3,w4,w5,trivial⟩
theorem step_c {x:DataW H} {ps:List MemPlace} {fuel:Nat} {cs:List Value} (hf:DataW.trod enc Tryz.prog W base sp held fuel 32 cs=some (x,ps)) (hl:cs.length=7) :
 ∃ (a0:Bool) (a1:Int) (a2:Int) (a3:Int) (a4:Int) (a5:Int) (a6:Int),cs=[.bool a0,.int .u64 a1,.int .u64 a2,.int .u64 a3,.int .u64 a4,.int .u64 a5,.int .u64 a6]/\(Lit.int .u64 a1).wf=true/\(Lit.int .u64 a2).wf=true/\(Lit.int .u64 a3).wf=true/\(Lit.int .u64 a4).wf=true/\(Lit.int .u64 a5).wf=true/\(Lit.int .u64 a6).wf=true/\True:=by
 obtain ⟨c0,c1,c2,c3,c4,c5,c6,hcs⟩: ∃ c0 c1 c2 c3 c4 c5 c6,cs=[c0,c1,c2,c3,c4,c5,c6]:=by
  revert hl
  match cs with
  | [c0, c1, c2, c3, c4, c5, c6] => intro _; exact ⟨c0, c1, c2, c3, c4, c5, c6, rfl⟩
  | [] => intro q; cases q
  | [_] => intro q; cases q
  | [_, _] => intro q; cases q
  | [_, _, _] => intro q; cases q
  | [_, _, _, _] => intro q; cases q
  | [_, _, _, _, _] => intro q; cases q
  | [_, _, _, _, _, _] => intro q; cases q
  | _ :: _ :: _ :: _ :: _ :: _ :: _ :: _ :: _ => intro q; simp at q
 subst hcs
 obtain ⟨zs,m,_,_,jl,jlen,jf⟩:=DataW.trod_struct Tryz.underlying32 hf
 have jg: ∀ i,i<2-> ∃ y,zs[i]? =some y:=fun i hi=>⟨_,List.getElem?_eq_getElem (by rw [jlen];exact hi)⟩
 obtain ⟨⟨z0a,z0b⟩,m0⟩:=jg 0 (by omega)
 obtain ⟨b0,e0,_⟩:=DataW.trod_bool Tryz.underlying4 ((jf 0 _ rfl).trans m0)
 obtain rfl:=cell_of cellsB e0 (c:=c0) (by first | rfl | (rw [cellsB];rfl))
 obtain ⟨⟨z1a,z1b⟩,m1⟩:=jg 1 (by omega)
 obtain ⟨b1,b2,b3,b4,b5,b6,q1,w1,w2,w3,w4,w5,w6,_⟩:=words_c6 (show DataW.trod enc Tryz.prog W base sp held _ 30 [c1,c2,c3,c4,c5,c6]=some (z1a,z1b) from (jf 1 _ rfl).trans m1) rfl
 simp only [List.cons.injEq,and_true] at q1
 obtain ⟨rfl,rfl,rfl,rfl,rfl,rfl⟩:=q1
 exact ⟨_,_,_,_,_,_,_,rfl,w1,w2,w3,w4,w5,w6,trivial⟩
def IsSteps (w:World) (p:Option Addr) (n:Nat) (A:Nat->Sp):Prop:= ∀ i,i<n-> ∃ b o,p=some ⟨b,o,none⟩/\b<w.heap.size/\w.cell? ⟨b,o+i*7+0,none⟩=some (.bool (A i).tk)/\w.cell? ⟨b,o+i*7+1,none⟩=some (.int .u64 (A i).x0)/\w.cell? ⟨b,o+i*7+2,none⟩=some (.int .u64 (A i).x1)/\w.cell? ⟨b,o+i*7+3,none⟩=some (.int .u64 (A i).x2)/\w.cell? ⟨b,o+i*7+4,none⟩=some (.int .u64 (A i).x3)/\w.cell? ⟨b,o+i*7+5,none⟩=some (.int .u64 (A i).x4)/\w.cell? ⟨b,o+i*7+6,none⟩=some (.int .u64 (A i).x5)/\(Lit.int .u64 (A i).x0).wf=true/\(Lit.int .u64 (A i).x1).wf=true/\(Lit.int .u64 (A i).x2).wf=true/\(Lit.int .u64 (A i).x3).wf=true/\(Lit.int .u64 (A i).x4).wf=true/\(Lit.int .u64 (A i).x5).wf=true
theorem open_steps {H:Type} {enc:TypeId × Value->H} {W:World} {base:Nat} {sp:Nat->Bool} {held:Bool} {v:Value} {x:DataW H} {ps:List MemPlace} {r:Reach} {b0:Nat}
 (hv:Value.okWide Tryz.prog W r b0 22 v) (h:DataW.Trod enc Tryz.prog W base sp held 22 v x ps) :
 ∃ (p:Option Addr) (n c:Nat) (A:Nat->Sp),v=.slice p n c/\n<=maxLen/\IsSteps W p n A:=by
 obtain ⟨a',l',c',rfl⟩:=okWide_slice Tryz.underlying22 hv
 obtain ⟨fuel,hf⟩:=h
 rcases Go.Deep.open_slice Tryz.underlying22 hf with ⟨e,_⟩ | ⟨a,len,cap,m,k,D,Pl,e,hb,hl,hm,hmm,hx,hel⟩
 . have e':Value.slice a' l' c'=.slice none 0 0:=(List.cons.inj (show [Value.slice a' l' c']=[.slice none 0 0] from e)).1
   exact ⟨none,0,0,fun _=>⟨false,0,0,0,0,0,0⟩,e',by omega,fun i hi=>absurd hi (Nat.not_lt_zero _)⟩
 . have e':Value.slice a' l' c'=.slice (some a) len cap:=(List.cons.inj (show [Value.slice a' l' c']=[.slice (some a) len cap] from e)).1
   have hlm:len<=m:=by rw [hmm];split <;> omega
   rw [e']
   have each: ∀ i,i<len-> ∃ q:Sp,a.spot=none/\a.block<W.heap.size/\W.cell? ⟨a.block,a.off+i*7+0,none⟩=some (.bool q.tk)/\W.cell? ⟨a.block,a.off+i*7+1,none⟩=some (.int .u64 q.x0)/\W.cell? ⟨a.block,a.off+i*7+2,none⟩=some (.int .u64 q.x1)/\W.cell? ⟨a.block,a.off+i*7+3,none⟩=some (.int .u64 q.x2)/\W.cell? ⟨a.block,a.off+i*7+4,none⟩=some (.int .u64 q.x3)/\W.cell? ⟨a.block,a.off+i*7+5,none⟩=some (.int .u64 q.x4)/\W.cell? ⟨a.block,a.off+i*7+6,none⟩=some (.int .u64 q.x5)/\(Lit.int .u64 q.x0).wf=true/\(Lit.int .u64 q.x1).wf=true/\(Lit.int .u64 q.x2).wf=true/\(Lit.int .u64 q.x3).wf=true/\(Lit.int .u64 q.x4).wf=true/\(Lit.int .u64 q.x5).wf=true:=fun i hi=>by
    obtain ⟨cs',h1,h2⟩:=hel i (by omega)
    obtain ⟨c2',h3,_⟩:=hel 0 (by omega)
    rw [open_steps_cells] at h1 h3
    obtain ⟨_,hlen,hcell⟩:=World.cells?_some h1
    obtain ⟨_,hlen3,hcell3⟩:=World.cells?_some h3
    have hspot:a.spot=none:=by
     have:=hcell3 0 (by omega)
     simpa [Addr.add] using World.cell?_spot (this.trans (List.getElem?_eq_getElem (by omega)))
    obtain ⟨a0,a1,a2,a3,a4,a5,a6,ecs,w1,w2,w3,w4,w5,w6,_⟩:=step_c h2 (by omega)
    have ad: ∀ j,(a.add (i*7)).add j=⟨a.block,a.off+i*7+j,none⟩:=fun j=>by
     rw [Go.Deep.add_add]
     unfold Addr.add
     by_cases c:i*7+j=0
     . rw [if_pos c]
       have:i*7=0/\j=0:=by omega
       obtain ⟨bb,oo,ss⟩:=a
       simp only at hspot
       subst hspot
       simp [this.1,this.2]
     . rw [if_neg c];simp;try omega
    have k0:=hcell 0 (by omega)
    rw [ad,ecs] at k0
    have k1:=hcell 1 (by omega)
    rw [ad,ecs] at k1
    have k2:=hcell 2 (by omega)
    rw [ad,ecs] at k2
    have k3:=hcell 3 (by omega)
    rw [ad,ecs] at k3
    have k4:=hcell 4 (by omega)
    rw [ad,ecs] at k4
    have k5:=hcell 5 (by omega)
    rw [ad,ecs] at k5
    have k6:=hcell 6 (by omega)
    rw [ad,ecs] at k6
    exact ⟨⟨a0,a1,a2,a3,a4,a5,a6⟩,hspot,(lt_of_cellS k0:_),k0,k1,k2,k3,k4,k5,k6,w1,w2,w3,w4,w5,w6⟩
   haveI:Inhabited Sp:=⟨⟨false,0,0,0,0,0,0⟩⟩
   obtain ⟨q,hq⟩:=Go.Deep.choose_lt each
   refine ⟨some a,len,cap,q,rfl,by omega,fun i hi=> ?_⟩
   have:=hq i hi
   obtain ⟨bb,oo,ss⟩:=a
   obtain ⟨s,l,rest⟩:=this
   simp only at s
   subst s
   exact ⟨bb,oo,rfl,l,rest⟩
theorem IsSteps.wf {w:World} {p:Option Addr} {n:Nat} {A:Nat->Sp} (h:IsSteps w p n A) {i:Nat} (hi:i<n):(A i).wd.wf:=by
 obtain ⟨b,o,_,_,_,_,_,_,_,_,_,w0,w1,w2,w3,w4,w5⟩:=h i hi
 exact wd_wf w0 w1 w2 w3 w4 w5
end
end Go.Proofs.YtokpmclmdobgeaaGreat.Fl
namespace Go.Proofs.YtokpmclmdobgeaaGreat.Fl
theorem eqI (d:Nat) (a b:Int) (W:World):(Op.equalIn (d+1) 3 (.int .i64 a) (.int .i64 b)).run Tryz.prog W=.ok (a==b) W:=run_equalIn_int W d _ .i64 .i64 a b Tryz.underlying3
theorem eqE (d:Nat) (a b:Int) (W:World):(Op.equalIn (d+1) 25 (.int .i64 a) (.int .i64 b)).run Tryz.prog W=.ok (a==b) W:=run_equalIn_int W d _ .i64 .i64 a b Tryz.underlying25
theorem eqU (d:Nat) (a b:Int) (W:World):(Op.equalIn (d+1) 28 (.int .u64 a) (.int .u64 b)).run Tryz.prog W=.ok (a==b) W:=run_equalIn_int W d _ .u64 .u64 a b Tryz.underlying28
theorem eqB (d:Nat) (a b:Bool) (W:World):(Op.equalIn (d+1) 4 (.bool a) (.bool b)).run Tryz.prog W=.ok (a==b) W:=run_equalIn_bool W d _ a b Tryz.underlying4
theorem eqFt (d:Nat) (a b a' b':Int) (W:World):(Op.equalIn (d+2) 34 (.agg #[.int .u64 a,.int .i64 b]) (.agg #[.int .u64 a',.int .i64 b'])).run Tryz.prog W=.ok (a==a' && b==b') W:=by
 rw [run_equalIn_struct W (d+1) 34 _ _ kc kc]
 have p0: ∀ (x y:Value) (W:World),(part 28 #[x,y] 0).run Tryz.prog W=.ok x W:=fun x y W=>by kernel_rfl
 have p1: ∀ (x y:Value) (W:World),(part 3 #[x,y] 1).run Tryz.prog W=.ok y W:=fun x y W=>by kernel_rfl
 simp only [Program.fieldsOf,Tryz.underlying34]
 simp [Op.eqFields,p0,p1,eqI,eqU]
 cases h1:(a==a') <;> cases h2:(b==b') <;> simp_all
theorem q0 (x0 x1 x2 x3 x4 x5:Value) (W:World):(part 3 #[x0,x1,x2,x3,x4,x5] 0).run Tryz.prog W=.ok x0 W:=kc
theorem q1 (x0 x1 x2 x3 x4 x5:Value) (W:World):(part 28 #[x0,x1,x2,x3,x4,x5] 1).run Tryz.prog W=.ok x1 W:=kc
theorem q2 (x0 x1 x2 x3 x4 x5:Value) (W:World):(part 25 #[x0,x1,x2,x3,x4,x5] 2).run Tryz.prog W=.ok x2 W:=kc
theorem q3 (x0 x1 x2 x3 x4 x5:Value) (W:World):(part 34 #[x0,x1,x2,x3,x4,x5] 3).run Tryz.prog W=.ok (.agg #[x3,x4]) W:=kc
theorem q5 (x0 x1 x2 x3 x4 x5:Value) (W:World):(part 4 #[x0,x1,x2,x3,x4,x5] 5).run Tryz.prog W=.ok x5 W:=kc
theorem equalR (d:Nat) (i X E fa fc:Int) (up:Bool) (W:World):(Op.equalIn (d+3) 36 (Rv i X E fa fc up) (Rv i X E fa fc up)).run Tryz.prog W=.ok true W:=by
 unfold Rv
 rw [run_equalIn_struct W (d+2) 36 _ _ kc kc]
 simp only [Program.fieldsOf,Tryz.underlying36]
 simp [Op.eqFields,q0,q1,q2,q3,q5,eqI,eqU,eqB,eqE,eqFt]
theorem neR (i X E fa fc:Int) (up:Bool) (W:World):(binOp .neq 36 (Rv i X E fa fc up) (Rv i X E fa fc up)).run Tryz.prog W=.ok (.bool false) W:=by
 have:=equalR 9997 i X E fa fc up W
 unfold Rv at this |-
 simp only [binOp,Op.equal,Sem.run_bind]
 rw [show Op.maxDepth=9997+3 from rfl,this];rfl
abbrev AP (w V:World) (X Y Z:Mb) (root:Int) (u:Nat) (a b:Sa):Prop:=TR w V X Y Z root u a b a
section
variable {w V:World} {X Y Z:Mb} {root:Int} {u:Nat}
theorem TR.doY {a b c b':Sa} {D:Ca.Wd} {r:Value} (h:TR w V X Y Z root u a b c) (hu:u<=1000) (d:DoIs D b r b'):Calls Tryz.prog 7 #[pp Y.mb,D.val] V fun e w'=>e=.returned r/\TR w w' X Y Z root (u+1) a b' c :=
 Calls.mono (h.rot.do hu d) fun e w' ⟨h1,h2⟩=>⟨h1,h2.rot.rot⟩
theorem TR.doZ {a b c c':Sa} {D:Ca.Wd} {r:Value} (h:TR w V X Y Z root u a b c) (hu:u<=1000) (d:DoIs D c r c'):Calls Tryz.prog 7 #[pp Z.mb,D.val] V fun e w'=>e=.returned r/\TR w w' X Y Z root (u+1) a b c' :=
 Calls.mono (h.rot.rot.do hu d) fun e w' ⟨h1,h2⟩=>⟨h1,h2.rot⟩
theorem TR.tickZ {a b c:Sa} (h:TR w V X Y Z root u a b c) (g:Ca.Good c.Q):Calls Tryz.prog 8 #[pp Z.mb] V fun e w'=>e=.returned (.tuple #[.bool (Ca.tckB c.Q),.int .i64 0])/\TR w w' X Y Z root (u+1) a b { c with Q:=Ca.tckS c.Q } :=
 Calls.mono (h.rot.rot.tick g) fun e w' ⟨h1,h2⟩=>⟨h1,h2.rot⟩
theorem TR.lineZ {a b c:Sa} (h:TR w V X Y Z root u a b c):Calls Tryz.prog 10 #[pp Z.mb] V fun e w'=>(∃ p c',e=.returned (.slice p c.Q.L.length c')/\Ca.IsI w' p c.Q.L V.heap.size)/\bc V w':=h.rot.rot.line
theorem TR.do6 {a b c a':Sa} {x0 x1 x2 x3 x4 x5 r0 r1 r2 r3 r4:Int} {r5:Bool} (h:TR w V X Y Z root u a b c) (hu:u<=1000) (d:DoIs ⟨x0,x1,x2,x3,x4,x5⟩ a (Rv r0 r1 r2 r3 r4 r5) a'):Calls Tryz.prog 7 #[pp X.mb,.agg (sf1 x0 x1 x2 x3 x4 x5)] V fun e w'=>e=.returned (.agg (sw r0 r1 r2 r3 r4 r5))/\TR w w' X Y Z root (u+1) a' b c:=by
 have q:=h.do hu d
 exact q
theorem TR.doY6 {a b c b':Sa} {x0 x1 x2 x3 x4 x5 r0 r1 r2 r3 r4:Int} {r5:Bool} (h:TR w V X Y Z root u a b c) (hu:u<=1000) (d:DoIs ⟨x0,x1,x2,x3,x4,x5⟩ b (Rv r0 r1 r2 r3 r4 r5) b'):Calls Tryz.prog 7 #[pp Y.mb,.agg (sf1 x0 x1 x2 x3 x4 x5)] V fun e w'=>e=.returned (.agg (sw r0 r1 r2 r3 r4 r5))/\TR w w' X Y Z root (u+1) a b' c:=by
 have q:=h.doY hu d
 exact q
theorem TR.doZ6 {a b c c':Sa} {x0 x1 x2 x3 x4 x5 r0 r1 r2 r3 r4:Int} {r5:Bool} (h:TR w V X Y Z root u a b c) (hu:u<=1000) (d:DoIs ⟨x0,x1,x2,x3,x4,x5⟩ c (Rv r0 r1 r2 r3 r4 r5) c'):Calls Tryz.prog 7 #[pp Z.mb,.agg (sf1 x0 x1 x2 x3 x4 x5)] V fun e w'=>e=.returned (.agg (sw r0 r1 r2 r3 r4 r5))/\TR w w' X Y Z root (u+1) a b c':=by
 have q:=h.doZ hu d
 exact q
theorem same_self (p1 p2:Option Addr) (c1 c2:Nat) (L:List Int) (b1 b2:Nat) (hn:L.length<=16) (w:World) (h1:Ca.IsI w p1 L b1) (h2:Ca.IsI w p2 L b2):Calls Tryz.prog 9 #[.slice p1 L.length c1,.slice p2 L.length c2] w (re (.bool true) w):=by
 have q:=Ca.same_any p1 p2 c1 c2 L L b1 b2 (by omega) w h1 h2
 rw [decide_eq_true rfl] at q
 exact q
theorem IsSteps.at {w:World} {p:Option Addr} {n:Nat} {A:Nat->Sp} (h:IsSteps w p n A) {i:Nat} (hi:i<n): ∃ b o,p=some ⟨b,o,none⟩/\(A i).wd.wf/\ ∀ V,bc w V->b<V.heap.size/\V.cell? ⟨b,o+i*7+0,none⟩=some (.bool (A i).tk)/\V.cell? ⟨b,o+i*7+1,none⟩=some (.int .u64 (A i).x0)/\V.cell? ⟨b,o+i*7+2,none⟩=some (.int .u64 (A i).x1)/\V.cell? ⟨b,o+i*7+3,none⟩=some (.int .u64 (A i).x2)/\V.cell? ⟨b,o+i*7+4,none⟩=some (.int .u64 (A i).x3)/\V.cell? ⟨b,o+i*7+5,none⟩=some (.int .u64 (A i).x4)/\V.cell? ⟨b,o+i*7+6,none⟩=some (.int .u64 (A i).x5):=by
 have wf:=h.wf hi
 obtain ⟨b,o,e,l,c0,c1,c2,c3,c4,c5,c6,_⟩:=h i hi
 exact ⟨b,o,e,wf,fun V hb=>⟨nla l hb.size,(hb.cell (p:=⟨b,_,none⟩) l).trans c0,(hb.cell (p:=⟨b,_,none⟩) l).trans c1,(hb.cell (p:=⟨b,_,none⟩) l).trans c2,(hb.cell (p:=⟨b,_,none⟩) l).trans c3,(hb.cell (p:=⟨b,_,none⟩) l).trans c4,(hb.cell (p:=⟨b,_,none⟩) l).trans c5,(hb.cell (p:=⟨b,_,none⟩) l).trans c6⟩⟩
end
end Go.Proofs.YtokpmclmdobgeaaGreat.Fl
