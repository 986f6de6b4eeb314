import Derived.Test.YtokpmclmdobgeaaGreatJXe
import Derived.Test.YtokpmclmdobgeaaGreatFWe
import Derived.Deep.Slices
import Derived.Test.YtokpmclmdobgeaaGreatJMe
set_option linter.unusedSimpArgs false
set_option linter.unusedVariables false
set_option maxRecDepth 8000
open Go.ChangeShapes Go.WideShapes Go.ChangeAt Go.RowKit Go.Maps
namespace Go.Proofs.YtokpmclmdobgeaaGreat.Fl
def DoIs (D:Ca.Wd) (s:Sa) (r:Value) (s':Sa):Prop:= ∀ (O:Nat->Nat) (u:Nat) (W:World) (M:Mb) (root:Int),u<=1000->Is O (1+400000*u) W M root s->Calls Tryz.prog 7 #[pp M.mb,D.val] W fun e w'=>e=.returned r/\Tx O W (fun O' V=>Is O' (1+400000*(u+1)) V M root s') w'
def Rv (i X E fa fc:Int) (up:Bool):Value:=.agg (sw i X E fa fc up)
theorem tx_more {O:Nat->Nat} {u:Nat} {W:World} {M:Mb} {root:Int} {s:Sa} {w':World} (h:Tx O W (fun O' V=>Is O' (1+400000*u+400000) V M root s) w'):Tx O W (fun O' V=>Is O' (1+400000*(u+1)) V M root s) w':=by
 rw [show 1+400000*(u+1)=1+400000*u+400000 by omega];exact h
theorem do_srv {s s':Sa} {i:Nat} (hQ:Ca.nowV s.Q.L=(i:Nat)) {D:Ca.Wd} (hD:D.wf) {c:Ca.Cl} (hc:Ca.Says D c) {X E fa fc:Int} {up:Bool} (hS: ∀ M root,Srv M root i c s (Ro X E fa fc up) s'):DoIs D s (Rv i X E fa fc up) s':=fun O u W M root hu h =>
 Calls.mono (h.do (by omega) i hQ D hD c hc X E fa fc up s' (hS M root)) (by
  rintro e w' ⟨rfl,hx⟩
  exact ⟨rfl,tx_more hx⟩)
theorem Inv.front {rk:Nat->Nat} {s:Sa} (h:Inv rk s): ∃ i:Nat,i<16/\Ca.nowV s.Q.L=(i:Nat)/\s.A i≠none:=by
 have z:=(h.inw.who 0).2 h.inw.zero
 cases e:s.Q.L with
 | nil => rw [e] at z; cases z
 | cons x r =>
  have m:x∈s.Q.L:=by rw [e];exact List.mem_cons_self
  have b:=h.inw.good.who x m
  refine ⟨x.toNat,by omega,by show x=_;omega,(h.inw.who x.toNat).1 ?_⟩
  rw [show ((x.toNat:Nat):Int)=x by omega];exact m
theorem do_all {rk:Nat->Nat} {t:Nat} {s:Sa} (h:Inv rk s) (ht:Cn t s.I) (t59:t<=59) {D:Ca.Wd} (hD:D.wf): ∃ (i X E fa fc:Int) (up:Bool) (s':Sa),(∃ rk',Inv rk' s')/\Cn (t+1) s'.I/\DoIs D s (Rv i X E fa fc up) s':=by
 obtain ⟨i,i16,hQ,hA⟩:=h.front
 by_cases hc: ∃ c,Ca.Says D c
 . obtain ⟨c,hc⟩:=hc
   obtain ⟨n,h1,_⟩:=id hc
   obtain ⟨X,E,fa,fc,up,s',rk',q1,q2,q3⟩:=go_any h ht (by omega) i16 hA hD (Ca.case_of h1) (fun _=>t59)
   exact ⟨i,X,E,fa,fc,up,s',⟨rk',q2⟩,q3.more (by split <;> omega),do_srv hQ hD hc q1⟩
 . refine ⟨i,0,13,0,0,false,s,⟨rk,h⟩,ht.more (by omega),fun O u W M root hu hI=>Calls.mono (hI.do_bad i hQ D hD hc) ?_⟩
   rintro e w' ⟨rfl,hx⟩
   exact ⟨rfl,tx_more hx⟩
theorem z_at (j:Nat):Sh.zT j=Sh.Gr.zero:=rfl
theorem z_tk: ∀ n,tkL Sh.zT n=[]
 | 0 => rfl
 | n + 1 => by rw [tkL, z_tk n, z_at, tk_zero]; rfl
theorem z_ct: ∀ n,ctI Sh.zT n=0
 | 0 => rfl
 | n + 1 => by rw [ctI, z_ct n, z_at, wt_zero]
theorem boot_cn (u t q:Int):Cn 0 (bootS u t q).I:=fun n _=>Nat.le_of_eq (z_ct n)
def P0:Pr:=⟨0,0,0,0,1,Tr.St.zero,none,0,[],fun _=>none,fun _ _=>none⟩
theorem Inv.boot (u t q:Int) (t0:0<=t) (tu:t+1<=u) (q0:1<=q) (q1:q<=1000):Inv (fun _=>0) (bootS u t q):=by
 have eA:(bootS u t q).A=setA (fun _=>none) 0 (some P0):=rfl
 have eI:(bootS u t q).I=Sh.zT:=rfl
 have eQ:(bootS u t q).Q=⟨q,0,[0]⟩:=rfl
 have a0: ∀ j,(bootS u t q).A j≠none↔j=0:=fun j=>by
  rw [eA]
  by_cases c:j=0
  . subst c;rw [setA_same];simp
  . rw [setA_other _ _ _ _ c];simp [c]
 have an: ∀ j P,(bootS u t q).A j=some P->j=0/\P=P0:=fun j P e=>by
  have c:j=0:=(a0 j).1 (by rw [e];simp)
  subst c
  rw [eA,setA_same] at e
  exact ⟨rfl,(sia e).symm⟩
 have z:u64B 0:=⟨by omega,by omega⟩
 have wn:Ways [] P0.F P0.G:=by
  refine ⟨List.nodup_nil,fun p=> ?_,fun y=>rfl,fun y=>rfl,fun y=>rfl⟩
  exact ⟨fun h=>absurd h List.not_mem_nil,fun h=>absurd rfl h⟩
 have pn:Pok P0:=by
  refine ⟨⟨trivial,by show (0:Int)<=_;omega⟩,⟨[],wn⟩,fun p hp=>absurd rfl hp,⟨fun k hk=> ?_,z,z,z,z,z⟩⟩
  rcases (by omega:k=0\/k=1\/k=2\/k=3) with e | e | e | e <;> (subst e;exact z)
 have tr:(Qo.getN (bootS u t q).T 1).used=1/\(Qo.getN (bootS u t q).T 1).live=true:=by
  show (Qo.getN (Qo.chargeT (kidT (Qo.chargeT (Qo.rootT u) 0 t) (u-t)) 1 1) 1).used=1/\(Qo.getN (Qo.chargeT (kidT (Qo.chargeT (Qo.rootT u) 0 t) (u-t)) 1 1) 1).live=true
  generalize Qo.chargeT (Qo.rootT u) 0 t=T1
  have k1:kidT T1 (u-t) 1=Qo.Nd.new 0 (u-t):=by unfold kidT;rw [Qo.put_other _ _ _ _ (by omega),Qo.put_same]
  have g:Qo.getN (kidT T1 (u-t)) 1=Qo.Nd.new 0 (u-t):=by unfold Qo.getN;rw [if_pos ⟨by omega,by omega⟩];exact k1
  have km:Qo.mayN (kidT T1 (u-t)) 1 1=0:=by
   unfold Qo.mayN
   rw [g,if_neg (by simp [Qo.Nd.new]),if_neg (by omega),if_neg (by simp [Qo.Nd.room,Qo.Nd.new];omega)]
  have r:=charge_at km
  rw [g] at r
  exact ⟨r.1,r.2⟩
 have ac:Acc (bootS u t q).T (bootS u t q).A:=by
  refine ⟨fun j P e=> ?_,fun i j P R e1 e2 _=>by rw [(an i P e1).1,(an j R e2).1]⟩
  obtain ⟨_,rfl⟩:=an j P e
  exact ⟨fun p hp=>(nomatch hp),tr.2,[],wn,tr.1⟩
 refine ⟨⟨?_,fun j=> ?_,fun j hj=> ?_,(a0 0).2 rfl,fun j P e=> ?_,fun k hk hi=> ?_,⟨fun _=>0,fun j P e j0=>absurd (an j P e).1 j0⟩,ac⟩,fun j P e=> ?_,?_⟩
 . rw [eQ]
   have wh: ∀ x∈[(0:Int)],0<=x/\x<16:=fun x hx=>by
    have:x=0:=by simpa using hx
    omega
   exact ⟨q0,q1,(by show (0:Int)<=0;omega),(by show (0:Int)<q;omega),(by simp),wh,fun h=>(nomatch h)⟩
 . rw [eQ,a0 j]
   show (j:Int)∈[0]↔_
   rw [List.mem_singleton];omega
 . exact bca fun c=>by have:=(a0 j).1 c;omega
 . rw [(an j P e).2];exact pn
 . rw [eI,z_at] at hi;cases hi
 . obtain ⟨rfl,rfl⟩:=an j P e
   exact Or.inl ⟨rfl,rfl⟩
 . rw [eI,z_tk]
   exact ⟨fun g hg=>absurd hg List.not_mem_nil,List.nodup_nil,fun j P e=>by rw [(an j P e).2];show 0+0<=94;omega⟩
structure Tri (w V:World) (X Y Z:Mb) (root:Int) (u:Nat) (a b c:Sa) (Ox Oy Oz:Nat->Nat):Prop where
 x:Is Ox (1+400000*u) V X root a
 y:Is Oy (1+400000*u) V Y root b
 z:Is Oz (1+400000*u) V Z root c
 xy: ∀ j,Ox j≠0->Oy j=0
 yz: ∀ j,Oy j≠0->Oz j=0
 zx: ∀ j,Oz j≠0->Ox j=0
 bel:bc w V
 ox: ∀ j,j<w.heap.size->Ox j=0
 oy: ∀ j,j<w.heap.size->Oy j=0
 oz: ∀ j,j<w.heap.size->Oz j=0
def TR (w V:World) (X Y Z:Mb) (root:Int) (u:Nat) (a b c:Sa):Prop:= ∃ Ox Oy Oz,Tri w V X Y Z root u a b c Ox Oy Oz
def T1 (w V:World) (X:Mb) (root:Int) (a:Sa):Prop:= ∃ Ox,Is Ox 1 V X root a/\(∀ j,j<w.heap.size->Ox j=0)/\bc w V
def T2 (w V:World) (X Y:Mb) (root:Int) (a b:Sa):Prop:= ∃ Ox Oy,Is Ox 1 V X root a/\Is Oy 1 V Y root b/\(∀ j,Ox j≠0->Oy j=0)/\(∀ j,j<w.heap.size->Ox j=0)/\(∀ j,j<w.heap.size->Oy j=0)/\bc w V
def ON (w V:World) (X:Mb) (root:Int) (u:Nat) (s:Sa):Prop:= ∃ O,Is O (1+400000*u) V X root s/\(∀ j,j<w.heap.size->O j=0)/\bc w V
section
variable {w V:World} {X:Mb} {root:Int}
theorem ON.bel {u:Nat} {s:Sa} (h:ON w V X root u s):bc w V:=by obtain ⟨O,_,_,hb⟩:=h;exact hb
theorem ON.below {w V V':World} {X:Mb} {root:Int} {u:Nat} {s:Sa} (h:ON w V X root u s) (hb:bc V V'):ON w V' X root u s:=by
 obtain ⟨O,m,o,b⟩:=h
 exact ⟨O,m.below hb,o,below_then b hb⟩
theorem ON.more {u u':Nat} {s:Sa} (h:ON w V X root u s) (hu:u<=u'):ON w V X root u' s:=by
 obtain ⟨O,m,o,b⟩:=h
 exact ⟨O,m.more (by omega),o,b⟩
theorem ON.on {w V V':World} {X:Mb} {root:Int} {u:Nat} {s s':Sa} {O:Nat->Nat} (m:Is O (1+400000*u) V X root s) (o: ∀ j,j<w.heap.size->O j=0) (b:bc w V) (hx:Tx O V (fun O' V=>Is O' (1+400000*(u+1)) V X root s') V'):ON w V' X root (u+1) s':=by
 obtain ⟨O',m',e1,e2,k⟩:=hx
 refine ⟨O',m',fun j hj=> ?_,⟨k.os.trans b.os,k.tape.trans b.tape,k.output.trans b.output,Nat.le_trans b.size k.size,fun j hj=>(k.block j ⟨o j hj,nla hj b.size⟩).trans (b.block j hj)⟩⟩
 rw [e1 j (nla hj b.size)];exact o j hj
theorem ON.do {u:Nat} {s s':Sa} {D:Ca.Wd} {r:Value} (h:ON w V X root u s) (hu:u<=1000) (d:DoIs D s r s'):Calls Tryz.prog 7 #[pp X.mb,D.val] V fun e w'=>e=.returned r/\ON w w' X root (u+1) s':=by
 obtain ⟨O,m,o,b⟩:=h
 refine Calls.mono (d O u V X root hu m) ?_
 rintro e w' ⟨rfl,hx⟩
 exact ⟨rfl,ON.on m o b hx⟩
theorem ON.tick {u:Nat} {s:Sa} (h:ON w V X root u s) (g:Ca.Good s.Q):Calls Tryz.prog 8 #[pp X.mb] V fun e w'=>e=.returned (.tuple #[.bool (Ca.tckB s.Q),.int .i64 0])/\ON w w' X root (u+1) { s with Q:=Ca.tckS s.Q }:=by
 obtain ⟨O,m,o,b⟩:=h
 refine Calls.mono (m.tick g) ?_
 rintro e w' ⟨rfl,hx⟩
 exact ⟨rfl,ON.on m o b (tx_more hx)⟩
theorem ON.line {u:Nat} {s:Sa} (h:ON w V X root u s):Calls Tryz.prog 10 #[pp X.mb] V fun e w'=>(∃ p c,e=.returned (.slice p s.Q.L.length c)/\Ca.IsI w' p s.Q.L V.heap.size)/\bc V w':=by
 obtain ⟨O,m,o,b⟩:=h
 exact m.line
theorem ON.boot (u:Int) (u0:3<=u) (u1:u<=1048576) (w:World):Calls Tryz.prog 6 #[.int .i64 u,.int .i64 2,.int .i64 2] w fun e w'=> ∃ X:Mb,e=.returned (.tuple #[pp X.mb,.int .i64 0])/\ON w w' X u 0 (bootS u 2 2):=by
 refine Calls.mono (Is.boot u 2 2 (by omega) (by omega) u1 (by omega) (by omega) w) ?_
 rintro e w' ⟨O,M,rfl,m,o,hb⟩
 exact ⟨M,rfl,O,m,o,hb⟩
def Hld (t:Nat) (s:Sa):Prop:=(∃ rk,Inv rk s)/\Cn t s.I
theorem Hld.boot (u:Int) (u0:3<=u):Hld 0 (bootS u 2 2):=⟨⟨_,Inv.boot u 2 2 (by omega) (by omega) (by omega) (by omega)⟩,boot_cn u 2 2⟩
theorem Hld.tick {t:Nat} {s:Sa} (h:Hld t s):Hld (t+1) { s with Q:=Ca.tckS s.Q }:=by
 obtain ⟨⟨rk,h⟩,c⟩:=h
 exact ⟨⟨rk,h.tick⟩,c.more (by omega)⟩
theorem Hld.good {t:Nat} {s:Sa} (h:Hld t s):Ca.Good s.Q:=by
 obtain ⟨⟨rk,h⟩,c⟩:=h
 exact h.inw.good
theorem Hld.do {t:Nat} {s:Sa} (h:Hld t s) (t59:t<=59) {D:Ca.Wd} (hD:D.wf): ∃ (i X E fa fc:Int) (up:Bool) (s':Sa),Hld (t+1) s'/\DoIs D s (Rv i X E fa fc up) s':=by
 obtain ⟨⟨rk,h⟩,c⟩:=h
 obtain ⟨i,X,E,fa,fc,up,s',h1,h2,h3⟩:=do_all h c t59 hD
 exact ⟨i,X,E,fa,fc,up,s',⟨h1,h2⟩,h3⟩
theorem Hld.more {t t':Nat} {s:Sa} (h:Hld t s) (e:t<=t'):Hld t' s:=⟨h.1,h.2.more e⟩
theorem lit_wf {x0 x1 x2 x3 x4 x5:Int} (h0:0<=x0/\x0<18446744073709551616) (h1:0<=x1/\x1<18446744073709551616) (h2:0<=x2/\x2<18446744073709551616) (h3:0<=x3/\x3<18446744073709551616) (h4:0<=x4/\x4<18446744073709551616) (h5:0<=x5/\x5<18446744073709551616):(⟨x0,x1,x2,x3,x4,x5⟩:Ca.Wd).wf:=fun k=>by
 match k with
 | 0 => exact h0
 | 1 => exact h1
 | 2 => exact h2
 | 3 => exact h3
 | 4 => exact h4
 | 5 => exact h5
 | n + 6 => exact ⟨by show (0 : Int) ≤ 0; omega, by show (0 : Int) < _; omega⟩
def W13:Ca.Wd:=⟨13,0,0,0,0,0⟩
def W14:Ca.Wd:=⟨14,0,0,0,0,0⟩
def W2 (p:Int):Ca.Wd:=⟨2,p,65536,0,0,0⟩
theorem w13_wf:W13.wf:=lit_wf (by omega) (by omega) (by omega) (by omega) (by omega) (by omega)
theorem w14_wf:W14.wf:=lit_wf (by omega) (by omega) (by omega) (by omega) (by omega) (by omega)
theorem w2_wf (p:Int) (p0:0<=p) (p1:p<1048576):(W2 p).wf:=lit_wf (by omega) (by omega) (by omega) (by omega) (by omega) (by omega)
def C13:Ca.Cl:=⟨13,0,0,false,false,false,0,0,0,0,0,0,0⟩
def C14:Ca.Cl:=⟨14,0,0,false,false,false,0,0,0,0,0,0,0⟩
def C2 (p:Int):Ca.Cl:=⟨2,p,p+65536,false,false,false,0,0,0,0,0,0,0⟩
theorem rest0 {x0 x1 x2:Int} {n:Nat} (h1:n<=1->x1=0) (h2:n<=2->x2=0) (h0:1<=n):Ca.restZ ⟨x0,x1,x2,0,0,0⟩ n:=fun i a b=>by
 match i,b with
 | 0, _ => omega
 | 1, _ => exact h1 (by omega)
 | 2, _ => exact h2 (by omega)
 | 3, _ => rfl
 | 4, _ => rfl
 | 5, _ => rfl
theorem says13:Ca.Says W13 C13:=⟨1,rfl,rest0 (fun _=>rfl) (fun _=>rfl) (by omega)⟩
theorem says14:Ca.Says W14 C14:=⟨1,rfl,rest0 (fun _=>rfl) (fun _=>rfl) (by omega)⟩
theorem says2 (p:Int) (p1:p<1048576) (p0:0<=p):Ca.Says (W2 p) (C2 p):=by
 refine ⟨3,?_,rest0 (fun h=>by omega) (fun h=>by omega) (by omega)⟩
 have a0:(W2 p).at 0=2:=rfl
 have a1:(W2 p).at 1=p:=rfl
 have a2:(W2 p).at 2=65536:=rfl
 unfold Ca.callV
 rw [a0,a1,a2,if_neg (by omega),if_pos rfl,if_pos (by unfold Ca.pagesOk;omega)]
 rfl
theorem Hld.zero {t:Nat} {s:Sa} (h:Hld t s):(0:Int)∈s.Q.L:=by
 obtain ⟨⟨rk,h⟩,c⟩:=h
 exact (h.inw.who 0).2 h.inw.zero
def far (s:Sa) (m:Nat):Nat:=2*lvA s.A m+if Ca.nowV s.Q.L=0 then 1 else 0
theorem far_bd (s:Sa) (m:Nat):far s m<=2*m+1:=by
 have:=lv_bd s.A m
 unfold far
 split <;> omega
theorem Hld.far {t:Nat} {s:Sa} (h:Hld t s) (m:Nat) (hm:1<=m):2<=far s m:=by
 obtain ⟨⟨rk,h⟩,c⟩:=h
 have:=lv_del s.A 0 h.inw.zero m (by omega)
 unfold Fl.far
 omega
theorem Hld.exit {t:Nat} {s:Sa} (h:Hld t s) (m:Nat) (hm:16<=m) (hq:Ca.nowV s.Q.L≠0): ∃ (i X E fa fc:Int) (up:Bool) (s':Sa),Hld t s'/\Fl.far s' m+1<=Fl.far s m/\DoIs W13 s (Rv i X E fa fc up) s':=by
 obtain ⟨⟨rk,h⟩,c⟩:=h
 obtain ⟨i,i16,hQ,hA⟩:=h.front
 have i0:i≠0:=fun e=>hq (by rw [hQ,e];rfl)
 obtain ⟨f,ok,q,hE⟩:=h.exit i0 hA
 have short:=end_short f i s i16 ok
 have le:=end_le f i s
 have sv: ∀ M root,Srv M root i C13 s (Ro 0 0 0 0 false) (endS f i s):=fun M root=>srv13 M root i16 C13 rfl s i0 f ok short
 generalize endS f i s=s' at q hE le sv
 refine ⟨i,_,_,_,_,_,s',⟨⟨rk,q⟩,c.sub le⟩,?_,do_srv hQ w13_wf says13 sv⟩
 have l1:=lv_del s.A i hA m (by omega)
 have l2:lvA s'.A m<=lvA (setA s.A i none) m:=lv_le (fun j hj=>by
  by_cases e:j=i
  . rw [e];exact hE.gone
  . rw [setA_other _ _ _ _ e] at hj
    exact hE.sub.none hj) m
 unfold Fl.far
 rw [if_neg hq]
 split <;> omega
theorem Hld.yield {t:Nat} {s:Sa} (h:Hld t s) (m:Nat) (hq:Ca.nowV s.Q.L=0) (hl:1<s.Q.L.length): ∃ (i X E fa fc:Int) (up:Bool) (s':Sa),Hld t s'/\Fl.far s' m+1<=Fl.far s m/\DoIs W14 s (Rv i X E fa fc up) s':=by
 obtain ⟨⟨rk,h⟩,c⟩:=h
 refine ⟨(0:Nat),_,_,_,_,_,_,⟨⟨rk,h.yield⟩,c⟩,?_,do_srv (i:=0) hq w14_wf says14 (fun M root=>srv14 (i:=0) M root kh C14 rfl s)⟩
 unfold Fl.far
 rw [if_pos hq,if_neg]
 . show 2*lvA s.A m+0+1<=_;omega
 . have nd:=h.inw.good.one
   revert nd hl hq
   generalize s.Q=S
   obtain ⟨q,t,L⟩:=S
   intro hq hl nd
   match L,hl with
   | x :: y :: r, _ =>
    have hq:x=0:=hq
    subst hq
    have:=(List.nodup_cons.1 nd).1
    show ¬ y=0
    intro e
    exact this (by rw [e];exact List.mem_cons_self)
theorem Hld.one {t:Nat} {s:Sa} (h:Hld t s) (hl: ¬ 1<s.Q.L.length):s.Q.L=[0]:=by
 have z:=h.zero
 revert z hl
 generalize s.Q.L=L
 intro hl z
 match L,z,hl with
 | [x], z, _ => rw [← List.mem_singleton.1 z]
 | _ :: _ :: _, _, hl => exact absurd (by simp) hl
theorem Hld.drop {t:Nat} {s:Sa} (h:Hld t s) (t60:t<=60) (hL:s.Q.L=[0]) (p:Int) (p0:0<=p) (p1:p<1048576): ∃ (i X E fa fc:Int) (up:Bool) (s':Sa),Hld t s'/\s'.Q.L=[0]/\DoIs (W2 p) s (Rv i X E fa fc up) s':=by
 obtain ⟨⟨rk,h⟩,ht⟩:=h
 have hQ:Ca.nowV s.Q.L=(0:Nat):=by rw [hL];rfl
 obtain ⟨P,hP⟩:=Option.ne_none_iff_exists'.1 h.inw.zero
 have pk:=h.inw.pok 0 P hP
 have i16:0<16:=by omega
 have D:=fun {X E fa fc:Int} {up:Bool} {s':Sa} (sv: ∀ M root,Srv M root 0 (C2 p) s (Ro X E fa fc up) s')=>do_srv hQ (w2_wf p p0 p1) (says2 p p1 p0) sv
 have same:Hld t s:=⟨⟨rk,h⟩,ht⟩
 by_cases e:Re.errA (Re.checkN P.L p (p+65536)) (Re.chg (fun _=>Re.Rg.zero) p (p+65536) P.L)=0
 . by_cases b:borB P.L p (p+65536)=true
   . exact ⟨_,_,_,_,_,_,s,same,hL,D fun M root=>srv2_bor M root i16 (C2 p) rfl s hP e pk.rl.num b⟩
   . have b:borB P.L p (p+65536)=false:=by simpa using b
     by_cases l:lendsB s.I (0:Nat) p (p+65536)=true
     . exact ⟨_,_,_,_,_,_,s,same,hL,D fun M root=>srv2_len M root i16 (C2 p) rfl s hP e pk.rl.num b l⟩
     . have l:lendsB s.I (0:Nat) p (p+65536)=false:=by simpa using l
       obtain ⟨f1,f2,f3,f4,f5⟩:=cut_facts pk.rl e
       obtain ⟨k,hk⟩: ∃ k:Nat,p+65536=p+k:=⟨65536,rfl⟩
       refine ⟨_,_,_,_,_,_,_,⟨⟨rk,h.unmap hP p (p+65536) (tk30 ht t60) e b k hk⟩,ht⟩,?_,D fun M root=>srv2 M root i16 (C2 p) rfl s hP e pk.rl.num b l (by show (Re.outL (Re.checkN P.L p (p+65536)) (Re.chg (fun _=>Re.Rg.zero) p (p+65536) P.L)).length<=100;rw [f1];omega) pk.ways p0 (by show p+65536<=34359738368;omega) k hk (by omega)⟩
       exact hL
 . exact ⟨_,_,_,_,_,_,s,same,hL,D fun M root=>srv2_no M root i16 (C2 p) rfl s hP _ e rfl⟩
theorem ON.high {u t:Nat} {s:Sa} (m:ON w V X root u s) (h:Hld t s): ∃ n:Int,1<=n/\Calls Tryz.prog 11 #[pp X.mb,.int .i64 0] V (re (.int .i64 n) V):=by
 obtain ⟨O,m,o,b⟩:=m
 obtain ⟨⟨rk,h⟩,c⟩:=h
 obtain ⟨P,hP⟩:=Option.ne_none_iff_exists'.1 h.inw.zero
 obtain ⟨K,_,hu⟩:=(h.inw.acc.pa 0 P hP).acc
 exact ⟨_,by rw [hu];omega,m.used (i:=0) kh hP⟩
theorem ON.gone {u t:Nat} {s:Sa} (m:ON w V X root u s) (h:Hld t s) (hL:s.Q.L=[0]):Calls Tryz.prog 11 #[pp X.mb,.int .i64 1] V fun e w'=>e=.returned (.int .i64 (-1))/\w'=V:=by
 obtain ⟨O,m,o,b⟩:=m
 obtain ⟨⟨rk,h⟩,c⟩:=h
 refine m.used_no 1 kh fun j hj _=>bca fun q=> ?_
 have z:=(h.inw.who j).2 q
 rw [hL,List.mem_singleton] at z
 omega
end
end Go.Proofs.YtokpmclmdobgeaaGreat.Fl
namespace Go.Proofs.YtokpmclmdobgeaaGreat.Fl
open Ca (cell_of cellsU wf_u64 wd_wf)
theorem cellsB:Tryz.prog.cellsOf 4=1:=kc
theorem lt_of_cellS {w:World} {a:Addr} {v:Value} (h:w.cell? a=some v):a.block<w.heap.size:=by
 unfold World.cell? at h
 by_cases c:a.block<w.heap.size
 . exact c
 . rw [Array.getElem?_eq_none (by omega)] at h
   simp at h
structure Sp where
 tk:Bool
 x0:Int
 x1:Int
 x2:Int
 x3:Int
 x4:Int
 x5:Int
def Sp.wd (s:Sp):Ca.Wd:=⟨s.x0,s.x1,s.x2,s.x3,s.x4,s.x5⟩
theorem open_steps_cells:Tryz.prog.cellsOf 32=7:=kc
section
variable {H:Type} {enc:TypeId × Value->H} {W:World} {base:Nat} {sp:Nat->Bool} {held:Bool}
theorem words_c6 {x:DataW H} {ps:List MemPlace} {fuel:Nat} {cs:List Value} (hf:DataW.trod enc Tryz.prog W base sp held fuel 30 cs=some (x,ps)) (hl:cs.length=6) :
 ∃ (a0:Int) (a1:Int) (a2:Int) (a3:Int) (a4:Int) (a5:Int),cs=(sj1 a0 a1 a2 a3 a4 a5)/\(Lit.int .u64 a0).wf=true/\(Lit.int .u64 a1).wf=true/\(Lit.int .u64 a2).wf=true/\(Lit.int .u64 a3).wf=true/\(Lit.int .u64 a4).wf=true/\(Lit.int .u64 a5).wf=true/\True:=by
 obtain ⟨c0,c1,c2,c3,c4,c5,hcs⟩: ∃ c0 c1 c2 c3 c4 c5,cs=[c0,c1,c2,c3,c4,c5]:=by
  revert hl
  match cs with
  | [c0, c1, c2, c3, c4, c5] => intro _; exact ⟨c0, c1, c2, c3, c4, c5, rfl⟩
  | [] => intro q; cases q
  | [_] => intro q; cases q
  | [_, _] => intro q; cases q
  | [_, _, _] => intro q; cases q
  | [_, _, _, _] => intro q; cases q
  | [_, _, _, _, _] => intro q; cases q
  | _ :: _ :: _ :: _ :: _ :: _ :: _ :: _ => intro q; simp at q
 subst hcs
 obtain ⟨zs,m,_,_,jl,jlen,jf⟩:=DataW.trod_array Tryz.underlying30 hf
 have jg: ∀ i,i<6-> ∃ y,zs[i]? =some y:=fun i hi=>⟨_,List.getElem?_eq_getElem (by rw [jlen];exact hi)⟩
 obtain ⟨⟨z0a,z0b⟩,m0⟩:=jg 0 (by omega)
 obtain ⟨b0,e0,_,w0⟩:=DataW.trod_int Tryz.underlying28 ((jf 0 (by omega)).trans m0)
 obtain rfl:=cell_of cellsU e0 (c:=c0) (by first | rfl | (rw [cellsU];rfl))
 obtain ⟨⟨z1a,z1b⟩,m1⟩:=jg 1 (by omega)
 obtain ⟨b1,e1,_,w1⟩:=DataW.trod_int Tryz.underlying28 ((jf 1 (by omega)).trans m1)
 obtain rfl:=cell_of cellsU e1 (c:=c1) (by first | rfl | (rw [cellsU];rfl))
 obtain ⟨⟨z2a,z2b⟩,m2⟩:=jg 2 (by omega)
 obtain ⟨b2,e2,_,w2⟩:=DataW.trod_int Tryz.underlying28 ((jf 2 (by omega)).trans m2)
 obtain rfl:=cell_of cellsU e2 (c:=c2) (by first | rfl | (rw [cellsU];rfl))
 obtain ⟨⟨z3a,z3b⟩,m3⟩:=jg 3 (by omega)
 obtain ⟨b3,e3,_,w3⟩:=DataW.trod_int Tryz.underlying28 ((jf 3 (by omega)).trans m3)
 obtain rfl:=cell_of cellsU e3 (c:=c3) (by first | rfl | (rw [cellsU];rfl))
 obtain ⟨⟨z4a,z4b⟩,m4⟩:=jg 4 (by omega)
 obtain ⟨b4,e4,_,w4⟩:=DataW.trod_int Tryz.underlying28 ((jf 4 (by omega)).trans m4)
 obtain rfl:=cell_of cellsU e4 (c:=c4) (by first | rfl | (rw [cellsU];rfl))
 obtain ⟨⟨z5a,z5b⟩,m5⟩:=jg 5 (by omega)
 obtain ⟨b5,e5,_,w5⟩:=DataW.trod_int Tryz.underlying28 ((jf 5 (by omega)).trans m5)
 obtain rfl:=cell_of cellsU e5 (c:=c5) (by first | rfl | (rw [cellsU];rfl))
 exact ⟨_,_,_,_,_,_,rfl,w0,w1,w2,w3,w4,w5,trivial⟩
theorem step_c {x:DataW H} {ps:List MemPlace} {fuel:Nat} {cs:List Value} (hf:DataW.trod enc Tryz.prog W base sp held fuel 32 cs=some (x,ps)) (hl:cs.length=7) :
 ∃ (a0:Bool) (a1:Int) (a2:Int) (a3:Int) (a4:Int) (a5:Int) (a6:Int),cs=[.bool a0,.int .u64 a1,.int .u64 a2,.int .u64 a3,.int .u64 a4,.int .u64 a5,.int .u64 a6]/\(Lit.int .u64 a1).wf=true/\(Lit.int .u64 a2).wf=true/\(Lit.int .u64 a3).wf=true/\(Lit.int .u64 a4).wf=true/\(Lit.int .u64 a5).wf=true/\(Lit.int .u64 a6).wf=true/\True:=by
 obtain ⟨c0,c1,c2,c3,c4,c5,c6,hcs⟩: ∃ c0 c1 c2 c3 c4 c5 c6,cs=[c0,c1,c2,c3,c4,c5,c6]:=by
  revert hl
  match cs with
  | [c0, c1, c2, c3, c4, c5, c6] => intro _; exact ⟨c0, c1, c2, c3, c4, c5, c6, rfl⟩
  | [] => intro q; cases q
  | [_] => intro q; cases q
  | [_, _] => intro q; cases q
  | [_, _, _] => intro q; cases q
  | [_, _, _, _] => intro q; cases q
  | [_, _, _, _, _] => intro q; cases q
  | [_, _, _, _, _, _] => intro q; cases q
  | _ :: _ :: _ :: _ :: _ :: _ :: _ :: _ :: _ => intro q; simp at q
 subst hcs
 obtain ⟨zs,m,_,_,jl,jlen,jf⟩:=DataW.trod_struct Tryz.underlying32 hf
 have jg: ∀ i,i<2-> ∃ y,zs[i]? =some y:=fun i hi=>⟨_,List.getElem?_eq_getElem (by rw [jlen];exact hi)⟩
 obtain ⟨⟨z0a,z0b⟩,m0⟩:=jg 0 (by omega)
 obtain ⟨b0,e0,_⟩:=DataW.trod_bool Tryz.underlying4 ((jf 0 _ rfl).trans m0)
 obtain rfl:=cell_of cellsB e0 (c:=c0) (by first | rfl | (rw [cellsB];rfl))
 obtain ⟨⟨z1a,z1b⟩,m1⟩:=jg 1 (by omega)
 obtain ⟨b1,b2,b3,b4,b5,b6,q1,w1,w2,w3,w4,w5,w6,_⟩:=words_c6 (show DataW.trod enc Tryz.prog W base sp held _ 30 [c1,c2,c3,c4,c5,c6]=some (z1a,z1b) from (jf 1 _ rfl).trans m1) rfl
 simp only [List.cons.injEq,and_true] at q1
 obtain ⟨rfl,rfl,rfl,rfl,rfl,rfl⟩:=q1
 exact ⟨_,_,_,_,_,_,_,rfl,w1,w2,w3,w4,w5,w6,trivial⟩
def IsSteps (w:World) (p:Option Addr) (n:Nat) (A:Nat->Sp):Prop:= ∀ i,i<n-> ∃ b o,p=some ⟨b,o,none⟩/\b<w.heap.size/\w.cell? ⟨b,o+i*7+0,none⟩=some (.bool (A i).tk)/\w.cell? ⟨b,o+i*7+1,none⟩=some (.int .u64 (A i).x0)/\w.cell? ⟨b,o+i*7+2,none⟩=some (.int .u64 (A i).x1)/\w.cell? ⟨b,o+i*7+3,none⟩=some (.int .u64 (A i).x2)/\w.cell? ⟨b,o+i*7+4,none⟩=some (.int .u64 (A i).x3)/\w.cell? ⟨b,o+i*7+5,none⟩=some (.int .u64 (A i).x4)/\w.cell? ⟨b,o+i*7+6,none⟩=some (.int .u64 (A i).x5)/\(Lit.int .u64 (A i).x0).wf=true/\(Lit.int .u64 (A i).x1).wf=true/\(Lit.int .u64 (A i).x2).wf=true/\(Lit.int .u64 (A i).x3).wf=true/\(Lit.int .u64 (A i).x4).wf=true/\(Lit.int .u64 (A i).x5).wf=true
theorem open_steps {H:Type} {enc:TypeId × Value->H} {W:World} {base:Nat} {sp:Nat->Bool} {held:Bool} {v:Value} {x:DataW H} {ps:List MemPlace} {r:Reach} {b0:Nat}
 (hv:Value.okWide Tryz.prog W r b0 22 v) (h:DataW.Trod enc Tryz.prog W base sp held 22 v x ps) :
 ∃ (p:Option Addr) (n c:Nat) (A:Nat->Sp),v=.slice p n c/\n<=maxLen/\IsSteps W p n A:=by
 obtain ⟨a',l',c',rfl⟩:=okWide_slice Tryz.underlying22 hv
 obtain ⟨fuel,hf⟩:=h
 rcases Go.Deep.open_slice Tryz.underlying22 hf with ⟨e,_⟩ | ⟨a,len,cap,m,k,D,Pl,e,hb,hl,hm,hmm,hx,hel⟩
 . have e':Value.slice a' l' c'=.slice none 0 0:=(List.cons.inj (show [Value.slice a' l' c']=[.slice none 0 0] from e)).1
   exact ⟨none,0,0,fun _=>⟨false,0,0,0,0,0,0⟩,e',by omega,fun i hi=>absurd hi (Nat.not_lt_zero _)⟩
 . have e':Value.slice a' l' c'=.slice (some a) len cap:=(List.cons.inj (show [Value.slice a' l' c']=[.slice (some a) len cap] from e)).1
   have hlm:len<=m:=by rw [hmm];split <;> omega
   rw [e']
   have each: ∀ i,i<len-> ∃ q:Sp,a.spot=none/\a.block<W.heap.size/\W.cell? ⟨a.block,a.off+i*7+0,none⟩=some (.bool q.tk)/\W.cell? ⟨a.block,a.off+i*7+1,none⟩=some (.int .u64 q.x0)/\W.cell? ⟨a.block,a.off+i*7+2,none⟩=some (.int .u64 q.x1)/\W.cell? ⟨a.block,a.off+i*7+3,none⟩=some (.int .u64 q.x2)/\W.cell? ⟨a.block,a.off+i*7+4,none⟩=some (.int .u64 q.x3)/\W.cell? ⟨a.block,a.off+i*7+5,none⟩=some (.int .u64 q.x4)/\W.cell? ⟨a.block,a.off+i*7+6,none⟩=some (.int .u64 q.x5)/\(Lit.int .u64 q.x0).wf=true/\(Lit.int .u64 q.x1).wf=true/\(Lit.int .u64 q.x2).wf=true/\(Lit.int .u64 q.x3).wf=true/\(Lit.int .u64 q.x4).wf=true/\(Lit.int .u64 q.x5).wf=true:=fun i hi=>by
    obtain ⟨cs',h1,h2⟩:=hel i (by omega)
    obtain ⟨c2',h3,_⟩:=hel 0 (by omega)
    rw [open_steps_cells] at h1 h3
    obtain ⟨_,hlen,hcell⟩:=World.cells?_some h1
    obtain ⟨_,hlen3,hcell3⟩:=World.cells?_some h3
    have hspot:a.spot=none:=by
     have:=hcell3 0 (by omega)
     simpa [Addr.add] using World.cell?_spot (this.trans (List.getElem?_eq_getElem (by omega)))
    obtain ⟨a0,a1,a2,a3,a4,a5,a6,ecs,w1,w2,w3,w4,w5,w6,_⟩:=step_c h2 (by omega)
    have ad: ∀ j,(a.add (i*7)).add j=⟨a.block,a.off+i*7+j,none⟩:=fun j=>by
     rw [Go.Deep.add_add]
     unfold Addr.add
     by_cases c:i*7+j=0
     . rw [if_pos c]
       have:i*7=0/\j=0:=by omega
       obtain ⟨bb,oo,ss⟩:=a
       simp only at hspot
       subst hspot
       simp [this.1,this.2]
     . rw [if_neg c];simp;try omega
    have k0:=hcell 0 (by omega)
    rw [ad,ecs] at k0
    have k1:=hcell 1 (by omega)
    rw [ad,ecs] at k1
    have k2:=hcell 2 (by omega)
    rw [ad,ecs] at k2
    have k3:=hcell 3 (by omega)
    rw [ad,ecs] at k3
    have k4:=hcell 4 (by omega)
    rw [ad,ecs] at k4
    have k5:=hcell 5 (by omega)
    rw [ad,ecs] at k5
    have k6:=hcell 6 (by omega)
    rw [ad,ecs] at k6
    exact ⟨⟨a0,a1,a2,a3,a4,a5,a6⟩,hspot,(lt_of_cellS k0:_),k0,k1,k2,k3,k4,k5,k6,w1,w2,w3,w4,w5,w6⟩
   haveI:Inhabited Sp:=⟨⟨false,0,0,0,0,0,0⟩⟩
   obtain ⟨q,hq⟩:=Go.Deep.choose_lt each
   refine ⟨some a,len,cap,q,rfl,by omega,fun i hi=> ?_⟩
   have:=hq i hi
   obtain ⟨bb,oo,ss⟩:=a
   obtain ⟨s,l,rest⟩:=this
   simp only at s
   subst s
   exact ⟨bb,oo,rfl,l,rest⟩
theorem IsSteps.wf {w:World} {p:Option Addr} {n:Nat} {A:Nat->Sp} (h:IsSteps w p n A) {i:Nat} (hi:i<n):(A i).wd.wf:=by
 obtain ⟨b,o,_,_,_,_,_,_,_,_,_,w0,w1,w2,w3,w4,w5⟩:=h i hi
 exact wd_wf w0 w1 w2 w3 w4 w5
end
end Go.Proofs.YtokpmclmdobgeaaGreat.Fl
namespace Go.Proofs.YtokpmclmdobgeaaGreat.Fl
theorem ON.do6 {w V:World} {X:Mb} {root:Int} {u:Nat} {s s':Sa} {x0 x1 x2 x3 x4 x5 r0 r1 r2 r3 r4:Int} {r5:Bool} (h:ON w V X root u s) (hu:u<=1000) (d:DoIs ⟨x0,x1,x2,x3,x4,x5⟩ s (Rv r0 r1 r2 r3 r4 r5) s'):Calls Tryz.prog 7 #[pp X.mb,.agg (sf1 x0 x1 x2 x3 x4 x5)] V fun e w'=>e=.returned (.agg (sw r0 r1 r2 r3 r4 r5))/\ON w w' X root (u+1) s':=by
 have q:=h.do hu d
 exact q
theorem same_self (p1 p2:Option Addr) (c1 c2:Nat) (L:List Int) (b1 b2:Nat) (hn:L.length<=16) (w:World) (h1:Ca.IsI w p1 L b1) (h2:Ca.IsI w p2 L b2):Calls Tryz.prog 9 #[.slice p1 L.length c1,.slice p2 L.length c2] w (re (.bool true) w):=by
 have q:=Ca.same_any p1 p2 c1 c2 L L b1 b2 (by omega) w h1 h2
 rw [decide_eq_true rfl] at q
 exact q
def ONB (w V:World) (X:Mb) (root:Int) (u:Nat) (s:Sa) (bb:Nat) (C:List Value) (ty:TypeId):Prop:= ∃ O,Is O (1+400000*u) V X root s/\Low O w V/\w.heap.size<=bb/\Bx O V bb C ty
theorem ON.new {w V:World} {X:Mb} {root:Int} {u:Nat} {s:Sa} (h:ON w V X root u s) (C:List Value) (ty:TypeId):ONB w (V.alloc (.cells C.toArray ty)) X root u s V.heap.size C ty:=by
 obtain ⟨O,m,o,b⟩:=h
 have sb:bc V (V.alloc (.cells C.toArray ty)):=baa
 exact ⟨O,m.below sb,Low.below ⟨b,o⟩ sb,b.size,Bx.made m.lt C ty⟩
section
variable {w V:World} {X:Mb} {root:Int} {u:Nat} {s:Sa} {bb:Nat} {C:List Value} {ty:TypeId}
theorem ONB.on (h:ONB w V X root u s bb C ty):ON w V X root u s:=by
 obtain ⟨O,m,l,_,_⟩:=h
 exact ⟨O,m,l.2,l.1⟩
theorem ONB.blk (h:ONB w V X root u s bb C ty):Blk V bb C ty:=by
 obtain ⟨O,m,l,_,b⟩:=h
 exact b.1
theorem ONB.below {w V V':World} {X:Mb} {root:Int} {u:Nat} {s:Sa} {bb:Nat} {C:List Value} {ty:TypeId} (h:ONB w V X root u s bb C ty) (hb:bc V V'):ONB w V' X root u s bb C ty:=by
 obtain ⟨O,m,l,z,b⟩:=h
 exact ⟨O,m.below hb,l.below hb,z,b.below hb⟩
theorem ONB.put (h:ONB w V X root u s bb C ty) (C':List Value) (e:C.length=C'.length):ONB w (V.setCells bb 0 C') X root u s bb C' ty:=by
 obtain ⟨O,m,l,z,b⟩:=h
 have g:=grown_setCells bb C' 0 V
 exact ⟨O,(Is.sta _ _ _ _) _ _ _ m g.size (fun j hj=>g.block j (m.lt j hj) (fun q=>hj (by
  have q:=sia q
  rw [show j=bb by omega];exact b.2))),⟨below_put l.1 z _,l.2⟩,z,b.1.put e,b.2⟩
theorem IsSteps.at {w:World} {p:Option Addr} {n:Nat} {A:Nat->Sp} (h:IsSteps w p n A) {i:Nat} (hi:i<n): ∃ b o,p=some ⟨b,o,none⟩/\(A i).wd.wf/\ ∀ V,bc w V->b<V.heap.size/\V.cell? ⟨b,o+i*7+0,none⟩=some (.bool (A i).tk)/\V.cell? ⟨b,o+i*7+1,none⟩=some (.int .u64 (A i).x0)/\V.cell? ⟨b,o+i*7+2,none⟩=some (.int .u64 (A i).x1)/\V.cell? ⟨b,o+i*7+3,none⟩=some (.int .u64 (A i).x2)/\V.cell? ⟨b,o+i*7+4,none⟩=some (.int .u64 (A i).x3)/\V.cell? ⟨b,o+i*7+5,none⟩=some (.int .u64 (A i).x4)/\V.cell? ⟨b,o+i*7+6,none⟩=some (.int .u64 (A i).x5):=by
 have wf:=h.wf hi
 obtain ⟨b,o,e,l,c0,c1,c2,c3,c4,c5,c6,_⟩:=h i hi
 exact ⟨b,o,e,wf,fun V hb=>⟨nla l hb.size,(hb.cell (p:=⟨b,_,none⟩) l).trans c0,(hb.cell (p:=⟨b,_,none⟩) l).trans c1,(hb.cell (p:=⟨b,_,none⟩) l).trans c2,(hb.cell (p:=⟨b,_,none⟩) l).trans c3,(hb.cell (p:=⟨b,_,none⟩) l).trans c4,(hb.cell (p:=⟨b,_,none⟩) l).trans c5,(hb.cell (p:=⟨b,_,none⟩) l).trans c6⟩⟩
end
end Go.Proofs.YtokpmclmdobgeaaGreat.Fl
