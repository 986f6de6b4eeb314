import Derived.Test.YtokpmclmdobgeaaGreatJRe
import Derived.Test.YtokpmclmdobgeaaGreatJBe
import Derived.Test.YtokpmclmdobgeaaGreatJAe
import Derived.Test.YtokpmclmdobgeaaGreatDoe
import Derived.Test.YtokpmclmdobgeaaGreatJDe
import Derived.Test.YtokpmclmdobgeaaGreatJOe
import Derived.Test.YtokpmclmdobgeaaGreatJNe
set_option linter.unusedSimpArgs false
set_option linter.unusedVariables false
set_option maxRecDepth 8000
open Go.ChangeShapes Go.WideShapes Go.ChangeAt Go.RowKit Go.Maps
namespace Go.Proofs.YtokpmclmdobgeaaGreat.Fl
def hanE (s:Tr.St):Int:=if s.inn=true then 11 else 0
def hanS (s:Tr.St) (x:Int):Tr.St:=if s.inn=true then s else { s with en:=x }
theorem handle_all (s:Tr.St) (x:Int) (w:World):Calls Tryz.prog 90 #[s.val,.int .u64 x] w (re (.tuple #[(hanS s x).val,.int .i64 (hanE s)]) w):=by
 obtain ⟨r0,r1,r2,r3,t,en,inn,a,c,s0,s1,s2,s3⟩:=s
 cases inn
 . exact Tr.handle_ok r0 r1 r2 r3 t en a c s0 s1 s2 s3 x w
 . exact Tr.handle_busy r0 r1 r2 r3 t en a c s0 s1 s2 s3 x w
def retE (s:Tr.St):Int:=if s.inn=true then 0 else 5
def retS (s:Tr.St):Tr.St:=if s.inn=true then ⟨s.s0,s.s1,s.s2,s.s3,s.told,s.en,false,0,0,0,0,0,0⟩ else s
theorem return_all (s:Tr.St) (w:World):Calls Tryz.prog 91 #[s.val] w (re (.tuple #[(retS s).val,.int .i64 (retE s)]) w):=by
 obtain ⟨r0,r1,r2,r3,t,en,inn,a,c,s0,s1,s2,s3⟩:=s
 cases inn
 . exact Tr.return_none r0 r1 r2 r3 t en a c s0 s1 s2 s3 w
 . exact Tr.return_ok r0 r1 r2 r3 t en a c s0 s1 s2 s3 w
def regOf (s:Tr.St) (k:Int):Int:=if k=0 then s.r0 else if k=1 then s.r1 else if k=2 then s.r2 else s.r3
def setR (s:Tr.St) (k x:Int):Tr.St:=if k=0 then { s with r0:=x } else if k=1 then { s with r1:=x } else if k=2 then { s with r2:=x } else { s with r3:=x }
abbrev inR (k:Int):Prop:=0<=k/\k<4
def movE (at':Int):Int:=if inR at' then 0 else 1
def movS (s:Tr.St) (at' x:Int):Tr.St:=if inR at' then setR s at' x else s
theorem move_all (s:Tr.St) (at' x:Int) (w:World):Calls Tryz.prog 93 #[s.val,.int .i64 at',.int .u64 x] w (re (.tuple #[(movS s at' x).val,.int .i64 (movE at')]) w):=by
 obtain ⟨r0,r1,r2,r3,t,en,inn,a,c,s0,s1,s2,s3⟩:=s
 by_cases h:inR at'
 . unfold movE movS
   rw [if_pos h,if_pos h]
   rcases (by omega:at'=0\/at'=1\/at'=2\/at'=3) with e | e | e | e
   . subst e;exact Tr.move_0 r0 r1 r2 r3 t en inn a c s0 s1 s2 s3 x w
   . subst e;exact Tr.move_1 r0 r1 r2 r3 t en inn a c s0 s1 s2 s3 x w
   . subst e;exact Tr.move_2 r0 r1 r2 r3 t en inn a c s0 s1 s2 s3 x w
   . subst e;exact Tr.move_3 r0 r1 r2 r3 t en inn a c s0 s1 s2 s3 x w
 . unfold movE movS
   rw [if_neg h,if_neg h]
   exact Tr.move_no r0 r1 r2 r3 t en inn a c s0 s1 s2 s3 at' h x w
abbrev u64B (x:Int):Prop:=0<=x/\x<18446744073709551616
structure RegOk (s:Tr.St):Prop where
 r: ∀ k,inR k->u64B (regOf s k)
 s0:u64B s.s0
 s1:u64B s.s1
 s2:u64B s.s2
 s3:u64B s.s3
 en:u64B s.en
def recE (op x y z:Int):Int:=if inR x/\inR y/\inR z then FltM.doE op else 1
def recS (s:Tr.St) (op x y z:Int):Tr.St:=if recE op x y z=0 then setR { s with told:=bits .or .i64 s.told (FltM.doT op (regOf s x).toNat (regOf s y).toNat) } z (FltM.doR op (regOf s x).toNat (regOf s y).toNat:Nat) else s
theorem reg_at (r0 r1 r2 r3 t en:Int) (i:Bool) (a c s0 s1 s2 s3:Int) (k:Nat) (h:k<4):[r0,r1,r2,r3][k]? =some (regOf ⟨r0,r1,r2,r3,t,en,i,a,c,s0,s1,s2,s3⟩ (k:Int)):=by
 rcases (by omega:k=0\/k=1\/k=2\/k=3) with e | e | e | e <;> (subst e;rfl)
theorem reckon_all (s:Tr.St) (hs:RegOk s) (op x y z:Int) (w:World):Calls Tryz.prog 92 #[s.val,.int .i64 op,.int .i64 x,.int .i64 y,.int .i64 z] w (re (.tuple #[(recS s op x y z).val,.int .i64 (recE op x y z)]) w):=by
 by_cases h:inR x/\inR y/\inR z
 . have e1:recE op x y z=FltM.doE op:=if_pos h
   obtain ⟨hx,hy,hz⟩:=h
   obtain ⟨ka,rfl⟩: ∃ k:Nat,x=k:=⟨x.toNat,by omega⟩
   obtain ⟨kb,rfl⟩: ∃ k:Nat,y=k:=⟨y.toNat,by omega⟩
   have bx:=hs.r _ hx
   have yb:=hs.r _ hy
   obtain ⟨ra,hra⟩: ∃ ra,regOf s (ka:Int)=ra:=⟨_,rfl⟩
   obtain ⟨rb,hrb⟩: ∃ rb,regOf s (kb:Int)=rb:=⟨_,rfl⟩
   have dc:=fun W=>Tr.do_any op ra rb (by rw [<- hra];exact bx.1) (by rw [<- hra];exact bx.2) (by rw [<- hrb];exact yb.1) (by rw [<- hrb];exact yb.2) W
   unfold recS
   rw [e1]
   obtain ⟨X,hX⟩: ∃ X:Int,(FltM.doR op ra.toNat rb.toNat:Nat)=X:=⟨_,rfl⟩
   obtain ⟨X2,hX2⟩: ∃ X,FltM.doT op ra.toNat rb.toNat=X:=⟨_,rfl⟩
   obtain ⟨E,hE⟩: ∃ E,FltM.doE op=E:=⟨_,rfl⟩
   rw [hX,hX2,hE] at dc
   rw [hE,hra,hrb,hX,hX2]
   obtain ⟨r0,r1,r2,r3,t,en,inn,a,c,s0,s1,s2,s3⟩:=s
   have q1:=reg_at r0 r1 r2 r3 t en inn a c s0 s1 s2 s3 ka (by omega)
   have q2:=reg_at r0 r1 r2 r3 t en inn a c s0 s1 s2 s3 kb (by omega)
   rw [hra] at q1
   rw [hrb] at q2
   by_cases E0:E=0
   . subst E0
     rw [if_pos rfl]
     rcases (by omega:z=0\/z=1\/z=2\/z=3) with e | e | e | e
     . subst e;exact Tr.reckon_0 r0 r1 r2 r3 t en inn a c s0 s1 s2 s3 op ka kb (by omega) (by omega) ra rb q1 q2 X X2 _ rfl dc w
     . subst e;exact Tr.reckon_1 r0 r1 r2 r3 t en inn a c s0 s1 s2 s3 op ka kb (by omega) (by omega) ra rb q1 q2 X X2 _ rfl dc w
     . subst e;exact Tr.reckon_2 r0 r1 r2 r3 t en inn a c s0 s1 s2 s3 op ka kb (by omega) (by omega) ra rb q1 q2 X X2 _ rfl dc w
     . subst e;exact Tr.reckon_3 r0 r1 r2 r3 t en inn a c s0 s1 s2 s3 op ka kb (by omega) (by omega) ra rb q1 q2 X X2 _ rfl dc w
   . rw [if_neg E0]
     exact Tr.reckon_e r0 r1 r2 r3 t en inn a c s0 s1 s2 s3 op ka kb (by omega) (by omega) z hz ra rb q1 q2 X X2 E E0 dc w
 . have e1:recE op x y z=1:=if_neg h
   unfold recS
   rw [e1,if_neg (by omega)]
   obtain ⟨r0,r1,r2,r3,t,en,inn,a,c,s0,s1,s2,s3⟩:=s
   exact Tr.reckon_no r0 r1 r2 r3 t en inn a c s0 s1 s2 s3 op x y z h w
def Sa.one (s:Sa) (i:Nat) (P:Pr):Sa:={ s with A:=setA s.A i (some P) }
section
variable {O:Nat->Nat} {W:World} {M:Mb} {root:Int} {s:Sa} {A:Nat->Option Pr} {B:Nat->Nat->Int} {ρ :Nat->Nat}
theorem Is.one (lt: ∀ j,O j≠0->j<W.heap.size) (ab:AbA ρ A s.A) (nm:Nm O ρ B s) (i:Nat) {n':Nat} {T':Nat->Qo.Nd} {I':Nat->Sh.Gr} (P':Pr) {w':World} (h:Tx O W (fun O' V=> ∃ R',Mn O' n' V M s.Q T' root I' (setA A i (some R')) B/\Ab ρ R' P') w') (hP: ∀ p c,P'.F p=some c->c<s.nx) :
 Tx O W (fun O' V=>Is O' n' V M root { s.one i P' with T:=T',I:=I' }) w':=by
 obtain ⟨O',⟨R',m,a⟩,e1,e2,k⟩:=h
 exact ⟨O',⟨_,B,ρ,m,ab.set i a,nm.keep (fun j hj=>e1 j (lt j hj)) rfl rfl (used_set nm.used i P' hP)⟩,e1,e2,k⟩
theorem Mn.sees {O:Nat->Nat} {n:Nat} {W:World} {M:Mb} {Q:Ca.Qu} {T:Nat->Qo.Nd} {root:Int} {I:Nat->Sh.Gr} {A:Nat->Option Pr} {B:Nat->Nat->Int} (h:Mn O n W M Q T root I A B) {A0:Nat->Option Pr} {i:Nat} {R R':Pr} (hA:A0 i=some R) (e:A=setA A0 i (some R')) (hp:R'.pb=R.pb):Md W M.mb M.tq M.tb M.pm/\MapF W M.pm n (prF A0):=by
 have q:=h.prm
 rw [e,prF_set A0 i R R' hA hp] at q
 exact ⟨h.mod,q⟩
def Ro (x e fa fc:Int) (up:Bool):Value:=.agg (sw 0 x e fa fc up)
def Srv (M:Mb) (root:Int) (i:Nat) (c:Ca.Cl) (s:Sa) (r:Value) (s':Sa):Prop:= ∀ (O:Nat->Nat) (n:Nat) (W:World),Is O n W M root s->n<90000000000->Calls Tryz.prog 20 #[pp M.mb,.int .i64 (i:Nat),c.val] W fun e w'=>e=.returned r/\Tx O W (fun O' V=>Is O' (n+400000) V M root s') w'
theorem srv10 (M:Mb) (root:Int) {i:Nat} (hi:i<16) (c:Ca.Cl) (hop:c.op=10) (s:Sa) {P:Pr} (hP:s.A i=some P):Srv M root i c s (Ro 0 (hanE P.st) 0 0 false) (s.one i { P with st:=hanS P.st c.ad }):=by
 intro O n W h hn
 obtain ⟨A,B,ρ,m,ab,nm⟩:=h
 obtain ⟨R,hR,hab⟩:=ab.at hP
 obtain ⟨op,k1,k2,k3,k4,k5,ad,sz,x,k6,k7,k8,k9⟩:=c
 have hop:op=10:=hop
 subst hop
 refine Calls.mono (m.serve_change i 10 kh kh kh kh k1 k2 k3 k4 k5 ad sz x k6 k7 k8 k9 _ (fun O' V=>Mn O' n V M s.Q s.T root s.I (setA A i (some { R with st:=hanS R.st ad })) B) (Mn.sta _ _ _ _ _ _ _ _) fun w hw=>hw.change10 hi hR k1 k2 k3 k4 k5 ad sz x k6 k7 k8 k9 _ _ n (Nat.le_refl _) (fun O' V hm=>hm.sees hR rfl rfl) fun w2 hw2=>hw2.alter10 hi hR k1 k2 k3 k4 k5 ad sz x k6 k7 k8 k9 (hanS R.st ad) _ fun w3=>handle_all R.st ad w3) ?_
 rintro e w' ⟨rfl,hx⟩
 rw [hab.st] at hx
 (try rw [hab.st])
 refine ⟨rfl,?_⟩
 have q:=Is.one m.lt ab nm i (I':=s.I) (T':=s.T) (n':=n+400000) { P with st:=hanS P.st ad } (by
  obtain ⟨O',m',e1,e2,k⟩:=hx
  exact ⟨O',⟨_,m'.more (by omega),⟨hab.par,hab.k,rfl,hab.L,hab.G,hab.F⟩⟩,e1,e2,k⟩) (fun p c hc=>nm.used i P p c hP hc)
 exact q
theorem srv11 (M:Mb) (root:Int) {i:Nat} (hi:i<16) (c:Ca.Cl) (hop:c.op=11) (s:Sa) {P:Pr} (hP:s.A i=some P):Srv M root i c s (Ro 0 (retE P.st) 0 0 false) (s.one i { P with st:=retS P.st }):=by
 intro O n W h hn
 obtain ⟨A,B,ρ,m,ab,nm⟩:=h
 obtain ⟨R,hR,hab⟩:=ab.at hP
 obtain ⟨op,k1,k2,k3,k4,k5,ad,sz,x,k6,k7,k8,k9⟩:=c
 have hop:op=11:=hop
 subst hop
 refine Calls.mono (m.serve_change i 11 kh kh kh kh k1 k2 k3 k4 k5 ad sz x k6 k7 k8 k9 _ (fun O' V=>Mn O' n V M s.Q s.T root s.I (setA A i (some { R with st:=retS R.st })) B) (Mn.sta _ _ _ _ _ _ _ _) fun w hw=>hw.change11 hi hR k1 k2 k3 k4 k5 ad sz x k6 k7 k8 k9 _ _ n (Nat.le_refl _) (fun O' V hm=>hm.sees hR rfl rfl) fun w2 hw2=>hw2.alter11 hi hR k1 k2 k3 k4 k5 ad sz x k6 k7 k8 k9 (retS R.st) _ fun w3=>return_all R.st w3) ?_
 rintro e w' ⟨rfl,hx⟩
 rw [hab.st] at hx
 (try rw [hab.st])
 refine ⟨rfl,?_⟩
 have q:=Is.one m.lt ab nm i (I':=s.I) (T':=s.T) (n':=n+400000) { P with st:=retS P.st } (by
  obtain ⟨O',m',e1,e2,k⟩:=hx
  exact ⟨O',⟨_,m'.more (by omega),⟨hab.par,hab.k,rfl,hab.L,hab.G,hab.F⟩⟩,e1,e2,k⟩) (fun p c hc=>nm.used i P p c hP hc)
 exact q
theorem srv15 (M:Mb) (root:Int) {i:Nat} (hi:i<16) (c:Ca.Cl) (hop:c.op=15) (s:Sa) {P:Pr} (hP:s.A i=some P) (hr:RegOk P.st):Srv M root i c s (Ro 0 (recE c.id c.a c.b c.d) 0 0 false) (s.one i { P with st:=recS P.st c.id c.a c.b c.d }):=by
 intro O n W h hn
 obtain ⟨A,B,ρ,m,ab,nm⟩:=h
 obtain ⟨R,hR,hab⟩:=ab.at hP
 obtain ⟨op,k1,k2,k3,k4,k5,ad,sz,x,k6,k7,k8,k9⟩:=c
 have hop:op=15:=hop
 subst hop
 refine Calls.mono (m.serve_change i 15 kh kh kh kh k1 k2 k3 k4 k5 ad sz x k6 k7 k8 k9 _ (fun O' V=>Mn O' n V M s.Q s.T root s.I (setA A i (some { R with st:=recS R.st k6 k7 k8 k9 })) B) (Mn.sta _ _ _ _ _ _ _ _) fun w hw=>hw.change15 hi hR k1 k2 k3 k4 k5 ad sz x k6 k7 k8 k9 _ _ n (Nat.le_refl _) (fun O' V hm=>hm.sees hR rfl rfl) fun w2 hw2=>hw2.alter15 hi hR k1 k2 k3 k4 k5 ad sz x k6 k7 k8 k9 (recS R.st k6 k7 k8 k9) _ fun w3=>reckon_all R.st (by rw [hab.st];exact hr) k6 k7 k8 k9 w3) ?_
 rintro e w' ⟨rfl,hx⟩
 rw [hab.st] at hx
 (try rw [hab.st])
 refine ⟨rfl,?_⟩
 have q:=Is.one m.lt ab nm i (I':=s.I) (T':=s.T) (n':=n+400000) { P with st:=recS P.st k6 k7 k8 k9 } (by
  obtain ⟨O',m',e1,e2,k⟩:=hx
  exact ⟨O',⟨_,m'.more (by omega),⟨hab.par,hab.k,rfl,hab.L,hab.G,hab.F⟩⟩,e1,e2,k⟩) (fun p c hc=>nm.used i P p c hP hc)
 exact q
theorem srv16 (M:Mb) (root:Int) {i:Nat} (hi:i<16) (c:Ca.Cl) (hop:c.op=16) (s:Sa) {P:Pr} (hP:s.A i=some P):Srv M root i c s (Ro 0 (movE c.id) 0 0 false) (s.one i { P with st:=movS P.st c.id c.x }):=by
 intro O n W h hn
 obtain ⟨A,B,ρ,m,ab,nm⟩:=h
 obtain ⟨R,hR,hab⟩:=ab.at hP
 obtain ⟨op,k1,k2,k3,k4,k5,ad,sz,x,k6,k7,k8,k9⟩:=c
 have hop:op=16:=hop
 subst hop
 refine Calls.mono (m.serve_change i 16 kh kh kh kh k1 k2 k3 k4 k5 ad sz x k6 k7 k8 k9 _ (fun O' V=>Mn O' n V M s.Q s.T root s.I (setA A i (some { R with st:=movS R.st k6 x })) B) (Mn.sta _ _ _ _ _ _ _ _) fun w hw=>hw.change16 hi hR k1 k2 k3 k4 k5 ad sz x k6 k7 k8 k9 _ _ n (Nat.le_refl _) (fun O' V hm=>hm.sees hR rfl rfl) fun w2 hw2=>hw2.alter16 hi hR k1 k2 k3 k4 k5 ad sz x k6 k7 k8 k9 (movS R.st k6 x) _ fun w3=>move_all R.st k6 x w3) ?_
 rintro e w' ⟨rfl,hx⟩
 rw [hab.st] at hx
 (try rw [hab.st])
 refine ⟨rfl,?_⟩
 have q:=Is.one m.lt ab nm i (I':=s.I) (T':=s.T) (n':=n+400000) { P with st:=movS P.st k6 x } (by
  obtain ⟨O',m',e1,e2,k⟩:=hx
  exact ⟨O',⟨_,m'.more (by omega),⟨hab.par,hab.k,rfl,hab.L,hab.G,hab.F⟩⟩,e1,e2,k⟩) (fun p c hc=>nm.used i P p c hP hc)
 exact q
theorem Mn.tx_below {O:Nat->Nat} {n:Nat} {W:World} {M:Mb} {Q:Ca.Qu} {T:Nat->Qo.Nd} {root:Int} {I:Nat->Sh.Gr} {A:Nat->Option Pr} {B:Nat->Nat->Int} (h:Mn O n W M Q T root I A B) {V:World} (hb:bc W V):Tx O W (fun O' V=>Mn O' n V M Q T root I A B) V:=⟨O,h.below hb,fun _ _=>rfl,(h.below hb).lt,Ko.of_below hb⟩
theorem Is.same (lt: ∀ j,O j≠0->j<W.heap.size) (ab:AbA ρ A s.A) (nm:Nm O ρ B s) {n' n2:Nat} (hn:n'<=n2) {Q':Ca.Qu} {T':Nat->Qo.Nd} {I':Nat->Sh.Gr} {w':World} (h:Tx O W (fun O' V=>Mn O' n' V M Q' T' root I' A B) w') :
 Tx O W (fun O' V=>Is O' n2 V M root { s with Q:=Q',T:=T',I:=I' }) w':=by
 obtain ⟨O',m,e1,e2,k⟩:=h
 exact ⟨O',⟨_,B,ρ,m.more hn,ab,nm.keep (fun j hj=>e1 j (lt j hj)) rfl rfl nm.used⟩,e1,e2,k⟩
theorem srv1_no (M:Mb) (root:Int) {i:Nat} (hi:i<16) (c:Ca.Cl) (hop:c.op=1) (s:Sa) {P:Pr} (hP:s.A i=some P) (E:Int) (E0:E≠0) (hE:Re.errA (Re.addN P.L ⟨c.fr,c.til,c.pw,c.pu,c.px,0⟩) (Re.addL P.L ⟨c.fr,c.til,c.pw,c.pu,c.px,0⟩)=E):Srv M root i c s (Ro 0 E 0 0 false) s:=by
 intro O n W h hn
 obtain ⟨A,B,ρ,m,ab,nm⟩:=h
 obtain ⟨R,hR,hab⟩:=ab.at hP
 obtain ⟨op,k1,k2,k3,k4,k5,ad,sz,x,k6,k7,k8,k9⟩:=c
 have hop:op=1:=hop
 subst hop
 refine Calls.mono (m.serve_change i 1 kh kh kh kh k1 k2 k3 k4 k5 ad sz x k6 k7 k8 k9 E (fun O' V=>Mn O' n V M s.Q s.T root s.I A B) (Mn.sta _ _ _ _ _ _ _ _) fun w hw=>hw.change1 hi hR k1 k2 k3 k4 k5 ad sz x k6 k7 k8 k9 E _ n (Nat.le_refl _) (fun O' V hm=>⟨hm.mod,hm.prm⟩) fun w2 hw2=>Calls.mono (hw2.add_no hi hR 1 k1 k2 k3 k4 k5 ad sz x k6 k7 k8 k9 _ E E0 (by rw [hab.L];exact hE) (by rw [hab.L])) k61) ?_
 rintro e w' ⟨rfl,hx⟩
 exact ⟨rfl,Is.same m.lt ab nm (by omega) hx⟩
theorem srv1 (M:Mb) (root:Int) {i:Nat} (hi:i<16) (c:Ca.Cl) (hop:c.op=1) (s:Sa) {P:Pr} (hP:s.A i=some P) (hE:Re.errA (Re.addN P.L ⟨c.fr,c.til,c.pw,c.pu,c.px,0⟩) (Re.addL P.L ⟨c.fr,c.til,c.pw,c.pu,c.px,0⟩)=0) (h1:(Re.outL (Re.addN P.L ⟨c.fr,c.til,c.pw,c.pu,c.px,0⟩) (Re.addL P.L ⟨c.fr,c.til,c.pw,c.pu,c.px,0⟩)).length<=100):Srv M root i c s (Ro 0 0 0 0 false) (s.one i { P with L:=Re.outL (Re.addN P.L ⟨c.fr,c.til,c.pw,c.pu,c.px,0⟩) (Re.addL P.L ⟨c.fr,c.til,c.pw,c.pu,c.px,0⟩) }):=by
 intro O n W h hn
 obtain ⟨A,B,ρ,m,ab,nm⟩:=h
 obtain ⟨R,hR,hab⟩:=ab.at hP
 obtain ⟨op,k1,k2,k3,k4,k5,ad,sz,x,k6,k7,k8,k9⟩:=c
 have hop:op=1:=hop
 subst hop
 obtain ⟨L',hL'⟩: ∃ L',Re.outL (Re.addN P.L ⟨k1,k2,k3,k4,k5,0⟩) (Re.addL P.L ⟨k1,k2,k3,k4,k5,0⟩)=L':=⟨_,rfl⟩
 have h1:L'.length<=100:=by rw [<- hL'];exact h1
 show _
 refine Calls.mono (m.serve_change i 1 kh kh kh kh k1 k2 k3 k4 k5 ad sz x k6 k7 k8 k9 0 (fun O' V=> ∃ p' c',Mn O' n V M s.Q s.T root s.I (setA A i (some { R with rp:=p',rc:=c',L:=L' })) B) (fun O V V' h hs hk=>by obtain ⟨p',c',h⟩:=h;exact ⟨p',c',h.keep hs hk⟩) fun w hw=>hw.change1 hi hR k1 k2 k3 k4 k5 ad sz x k6 k7 k8 k9 0 _ n (Nat.le_refl _) (fun O' V hm=>by obtain ⟨p',c',h⟩:=hm;exact h.sees hR rfl rfl) fun w2 hw2=>Calls.mono (hw2.add hi hR 1 k1 k2 k3 k4 k5 ad sz x k6 k7 k8 k9 L' (by rw [hab.L];exact hE) (by rw [hab.L];exact hL') h1) (by rintro e w' ⟨rfl,O',p',c',m',e1,k⟩;exact ⟨rfl,O',⟨p',c',m'⟩,e1,m'.lt,k⟩)) ?_
 rintro e w' ⟨rfl,hx⟩
 refine ⟨rfl,?_⟩
 have q:=Is.one m.lt ab nm i (I':=s.I) (T':=s.T) (n':=n+400000) { P with L:=L' } (by
  obtain ⟨O',⟨p',c',m'⟩,e1,e2,k⟩:=hx
  exact ⟨O',⟨_,m'.more (by omega),⟨hab.par,hab.k,hab.st,rfl,hab.G,hab.F⟩⟩,e1,e2,k⟩) (fun p c hc=>nm.used i P p c hP hc)
 rw [<- hL'] at q
 exact q
theorem srv2_no (M:Mb) (root:Int) {i:Nat} (hi:i<16) (c:Ca.Cl) (hop:c.op=2) (s:Sa) {P:Pr} (hP:s.A i=some P) (E:Int) (E0:E≠0) (hE:Re.errA (Re.checkN P.L c.fr c.til) (Re.chg (fun _=>Re.Rg.zero) c.fr c.til P.L)=E):Srv M root i c s (Ro 0 E 0 0 false) s:=by
 intro O n W h hn
 obtain ⟨A,B,ρ,m,ab,nm⟩:=h
 obtain ⟨R,hR,hab⟩:=ab.at hP
 obtain ⟨op,k1,k2,k3,k4,k5,ad,sz,x,k6,k7,k8,k9⟩:=c
 have hop:op=2:=hop
 subst hop
 refine Calls.mono (m.serve_change i 2 kh kh kh kh k1 k2 k3 k4 k5 ad sz x k6 k7 k8 k9 E (fun O' V=>Mn O' n V M s.Q s.T root s.I A B) (Mn.sta _ _ _ _ _ _ _ _) fun w hw=>hw.change2 i k1 k2 k3 k4 k5 ad sz x k6 k7 k8 k9 E _ fun w2 hw2=>Calls.mono (((hw2.unmap hi hR k1 k2 k3 k4 k5 ad sz x k6 k7 k8 k9 0 E _ (by rw [hab.L];exact hE) (by rw [hab.L]) _ _ rfl rfl (fun z=>absurd z E0) (fun z=>absurd z E0)).mono fun e w2 q=>q.no E0)) k61) ?_
 rintro e w' ⟨rfl,hx⟩
 exact ⟨rfl,Is.same m.lt ab nm (by omega) hx⟩
theorem srv2_bor (M:Mb) (root:Int) {i:Nat} (hi:i<16) (c:Ca.Cl) (hop:c.op=2) (s:Sa) {P:Pr} (hP:s.A i=some P) (hE:Re.errA (Re.checkN P.L c.fr c.til) (Re.chg (fun _=>Re.Rg.zero) c.fr c.til P.L)=0) (hN:Re.NumL P.L) (hB:borB P.L c.fr c.til=true):Srv M root i c s (Ro 0 11 0 0 false) s:=by
 intro O n W h hn
 obtain ⟨A,B,ρ,m,ab,nm⟩:=h
 obtain ⟨R,hR,hab⟩:=ab.at hP
 obtain ⟨op,k1,k2,k3,k4,k5,ad,sz,x,k6,k7,k8,k9⟩:=c
 have hop:op=2:=hop
 subst hop
 refine Calls.mono (m.serve_change i 2 kh kh kh kh k1 k2 k3 k4 k5 ad sz x k6 k7 k8 k9 11 (fun O' V=>Mn O' n V M s.Q s.T root s.I A B) (Mn.sta _ _ _ _ _ _ _ _) fun w hw=>hw.change2 i k1 k2 k3 k4 k5 ad sz x k6 k7 k8 k9 11 _ fun w2 hw2=>Calls.mono (((hw2.unmap hi hR k1 k2 k3 k4 k5 ad sz x k6 k7 k8 k9 0 0 _ (by rw [hab.L];exact hE) (by rw [hab.L]) true _ (by rw [hab.L];exact hB) rfl (fun _=>by rw [hab.L];exact hN) (fun _ z=>nomatch z)).mono fun e w2 q=>(q.yes rfl).yes rfl)) k61) ?_
 rintro e w' ⟨rfl,hx⟩
 exact ⟨rfl,Is.same m.lt ab nm (by omega) hx⟩
theorem srv2_len (M:Mb) (root:Int) {i:Nat} (hi:i<16) (c:Ca.Cl) (hop:c.op=2) (s:Sa) {P:Pr} (hP:s.A i=some P) (hE:Re.errA (Re.checkN P.L c.fr c.til) (Re.chg (fun _=>Re.Rg.zero) c.fr c.til P.L)=0) (hN:Re.NumL P.L) (hB:borB P.L c.fr c.til=false) (hLE:lendsB s.I (i:Nat) c.fr c.til=true):Srv M root i c s (Ro 0 11 0 0 false) s:=by
 intro O n W h hn
 obtain ⟨A,B,ρ,m,ab,nm⟩:=h
 obtain ⟨R,hR,hab⟩:=ab.at hP
 obtain ⟨op,k1,k2,k3,k4,k5,ad,sz,x,k6,k7,k8,k9⟩:=c
 have hop:op=2:=hop
 subst hop
 refine Calls.mono (m.serve_change i 2 kh kh kh kh k1 k2 k3 k4 k5 ad sz x k6 k7 k8 k9 11 (fun O' V=>Mn O' n V M s.Q s.T root s.I A B) (Mn.sta _ _ _ _ _ _ _ _) fun w hw=>hw.change2 i k1 k2 k3 k4 k5 ad sz x k6 k7 k8 k9 11 _ fun w2 hw2=>Calls.mono (((hw2.unmap hi hR k1 k2 k3 k4 k5 ad sz x k6 k7 k8 k9 0 0 _ (by rw [hab.L];exact hE) (by rw [hab.L]) false true (by rw [hab.L];exact hB) hLE (fun _=>by rw [hab.L];exact hN) (fun _ _ z=>nomatch z)).mono fun e w2 q=>((q.yes rfl).no kh).yes rfl)) k61) ?_
 rintro e w' ⟨rfl,hx⟩
 exact ⟨rfl,Is.same m.lt ab nm (by omega) hx⟩
theorem srv3_no (M:Mb) (root:Int) {i:Nat} (hi:i<16) (c:Ca.Cl) (hop:c.op=3) (s:Sa) {P:Pr} (hP:s.A i=some P) (E:Int) (E0:E≠0) (hE:Re.errA (Re.protN P.L c.fr c.til) (Re.chg (fun r=>r.may c.pw c.pu c.px) c.fr c.til P.L)=E):Srv M root i c s (Ro 0 E 0 0 false) s:=by
 intro O n W h hn
 obtain ⟨A,B,ρ,m,ab,nm⟩:=h
 obtain ⟨R,hR,hab⟩:=ab.at hP
 obtain ⟨op,k1,k2,k3,k4,k5,ad,sz,x,k6,k7,k8,k9⟩:=c
 have hop:op=3:=hop
 subst hop
 refine Calls.mono (m.serve_change i 3 kh kh kh kh k1 k2 k3 k4 k5 ad sz x k6 k7 k8 k9 E (fun O' V=>Mn O' n V M s.Q s.T root s.I A B) (Mn.sta _ _ _ _ _ _ _ _) fun w hw=>hw.change3 i k1 k2 k3 k4 k5 ad sz x k6 k7 k8 k9 E _ fun w2 hw2=>Calls.mono (((hw2.protect hi hR k1 k2 k3 k4 k5 ad sz x k6 k7 k8 k9 E _ (by rw [hab.L];exact hE) (by rw [hab.L]) _ _ rfl rfl (fun z=>absurd z E0) (fun z=>absurd z E0)).mono fun e w2 q=>q.no E0)) k61) ?_
 rintro e w' ⟨rfl,hx⟩
 exact ⟨rfl,Is.same m.lt ab nm (by omega) hx⟩
theorem srv3_bor (M:Mb) (root:Int) {i:Nat} (hi:i<16) (c:Ca.Cl) (hop:c.op=3) (s:Sa) {P:Pr} (hP:s.A i=some P) (hE:Re.errA (Re.protN P.L c.fr c.til) (Re.chg (fun r=>r.may c.pw c.pu c.px) c.fr c.til P.L)=0) (hN:Re.NumL P.L) (hB:borB P.L c.fr c.til=true):Srv M root i c s (Ro 0 11 0 0 false) s:=by
 intro O n W h hn
 obtain ⟨A,B,ρ,m,ab,nm⟩:=h
 obtain ⟨R,hR,hab⟩:=ab.at hP
 obtain ⟨op,k1,k2,k3,k4,k5,ad,sz,x,k6,k7,k8,k9⟩:=c
 have hop:op=3:=hop
 subst hop
 refine Calls.mono (m.serve_change i 3 kh kh kh kh k1 k2 k3 k4 k5 ad sz x k6 k7 k8 k9 11 (fun O' V=>Mn O' n V M s.Q s.T root s.I A B) (Mn.sta _ _ _ _ _ _ _ _) fun w hw=>hw.change3 i k1 k2 k3 k4 k5 ad sz x k6 k7 k8 k9 11 _ fun w2 hw2=>Calls.mono (((hw2.protect hi hR k1 k2 k3 k4 k5 ad sz x k6 k7 k8 k9 0 _ (by rw [hab.L];exact hE) (by rw [hab.L]) true _ (by rw [hab.L];exact hB) rfl (fun _=>by rw [hab.L];exact hN) (fun _ z=>nomatch z)).mono fun e w2 q=>(q.yes rfl).yes rfl)) k61) ?_
 rintro e w' ⟨rfl,hx⟩
 exact ⟨rfl,Is.same m.lt ab nm (by omega) hx⟩
theorem srv3_len (M:Mb) (root:Int) {i:Nat} (hi:i<16) (c:Ca.Cl) (hop:c.op=3) (s:Sa) {P:Pr} (hP:s.A i=some P) (hE:Re.errA (Re.protN P.L c.fr c.til) (Re.chg (fun r=>r.may c.pw c.pu c.px) c.fr c.til P.L)=0) (hN:Re.NumL P.L) (hB:borB P.L c.fr c.til=false) (hLE:lendsB s.I (i:Nat) c.fr c.til=true):Srv M root i c s (Ro 0 11 0 0 false) s:=by
 intro O n W h hn
 obtain ⟨A,B,ρ,m,ab,nm⟩:=h
 obtain ⟨R,hR,hab⟩:=ab.at hP
 obtain ⟨op,k1,k2,k3,k4,k5,ad,sz,x,k6,k7,k8,k9⟩:=c
 have hop:op=3:=hop
 subst hop
 refine Calls.mono (m.serve_change i 3 kh kh kh kh k1 k2 k3 k4 k5 ad sz x k6 k7 k8 k9 11 (fun O' V=>Mn O' n V M s.Q s.T root s.I A B) (Mn.sta _ _ _ _ _ _ _ _) fun w hw=>hw.change3 i k1 k2 k3 k4 k5 ad sz x k6 k7 k8 k9 11 _ fun w2 hw2=>Calls.mono (((hw2.protect hi hR k1 k2 k3 k4 k5 ad sz x k6 k7 k8 k9 0 _ (by rw [hab.L];exact hE) (by rw [hab.L]) false true (by rw [hab.L];exact hB) hLE (fun _=>by rw [hab.L];exact hN) (fun _ _ z=>nomatch z)).mono fun e w2 q=>((q.yes rfl).no kh).yes rfl)) k61) ?_
 rintro e w' ⟨rfl,hx⟩
 exact ⟨rfl,Is.same m.lt ab nm (by omega) hx⟩
theorem srv3 (M:Mb) (root:Int) {i:Nat} (hi:i<16) (c:Ca.Cl) (hop:c.op=3) (s:Sa) {P:Pr} (hP:s.A i=some P) (hE:Re.errA (Re.protN P.L c.fr c.til) (Re.chg (fun r=>r.may c.pw c.pu c.px) c.fr c.til P.L)=0) (hN:Re.NumL P.L) (hB:borB P.L c.fr c.til=false) (hLE:lendsB s.I (i:Nat) c.fr c.til=false) (h1:(Re.outL (Re.protN P.L c.fr c.til) (Re.chg (fun r=>r.may c.pw c.pu c.px) c.fr c.til P.L)).length<=100):Srv M root i c s (Ro 0 0 0 0 false) (s.one i { P with L:=Re.outL (Re.protN P.L c.fr c.til) (Re.chg (fun r=>r.may c.pw c.pu c.px) c.fr c.til P.L) }):=by
 intro O n W h hn
 obtain ⟨A,B,ρ,m,ab,nm⟩:=h
 obtain ⟨R,hR,hab⟩:=ab.at hP
 obtain ⟨op,k1,k2,k3,k4,k5,ad,sz,x,k6,k7,k8,k9⟩:=c
 have hop:op=3:=hop
 subst hop
 obtain ⟨L',hL'⟩: ∃ L',Re.outL (Re.protN P.L k1 k2) (Re.chg (fun r=>r.may k3 k4 k5) k1 k2 P.L)=L':=⟨_,rfl⟩
 have h1:L'.length<=100:=by rw [<- hL'];exact h1
 refine Calls.mono (m.serve_change i 3 kh kh kh kh k1 k2 k3 k4 k5 ad sz x k6 k7 k8 k9 0 (fun O' V=> ∃ p' c',Mn O' n V M s.Q s.T root s.I (setA A i (some { R with rp:=p',rc:=c',L:=L' })) B) (fun O V V' h hs hk=>by obtain ⟨p',c',h⟩:=h;exact ⟨p',c',h.keep hs hk⟩) fun w hw=>hw.change3 i k1 k2 k3 k4 k5 ad sz x k6 k7 k8 k9 0 _ fun w2 hw2=>Calls.mono ((hw2.protect hi hR k1 k2 k3 k4 k5 ad sz x k6 k7 k8 k9 0 L' (by rw [hab.L];exact hE) (by rw [hab.L];exact hL') false false (by rw [hab.L];exact hB) hLE (fun _=>by rw [hab.L];exact hN) (fun _ _ _=>h1)).mono fun e w2 q=>((q.yes rfl).no kh).no kh) (by rintro e w' ⟨rfl,p',c',O',m',e1,e2,k⟩;exact ⟨rfl,O',⟨p',c',m'⟩,e1,e2,k⟩)) ?_
 rintro e w' ⟨rfl,hx⟩
 refine ⟨rfl,?_⟩
 have q:=Is.one m.lt ab nm i (I':=s.I) (T':=s.T) (n':=n+400000) { P with L:=L' } (by
  obtain ⟨O',⟨p',c',m'⟩,e1,e2,k⟩:=hx
  exact ⟨O',⟨_,m'.more (by omega),⟨hab.par,hab.k,hab.st,rfl,hab.G,hab.F⟩⟩,e1,e2,k⟩) (fun p c hc=>nm.used i P p c hP hc)
 rw [<- hL'] at q
 exact q
theorem unStep_ab {ρ :Nat->Nat} {R P:Pr} (h:Ab ρ R P) (T:Nat->Qo.Nd) (x:Int):(unStep x (T,R)).1=(unStep x (T,P)).1/\Ab ρ (unStep x (T,R)).2 (unStep x (T,P)).2:=by
 have hf:=h.F x
 unfold unStep
 cases hx:P.F x with
 | none =>
  rw [hx] at hf
  have hf:R.F x=none:=hf
  rw [if_pos hf,if_pos rfl]
  exact ⟨rfl,h⟩
 | some c =>
  rw [hx] at hf
  have hf:R.F x=some (ρ c):=hf
  rw [if_neg (show ¬ R.F x=none by rw [hf];simp),if_neg (show ¬ some c=none by simp)]
  refine ⟨?_,⟨h.par,h.k,h.st,h.L,?_,fun p=>put_map ρ h.F x none none rfl p⟩⟩
  . show Qo.creditT T R.k (costD 1 (x / 512) (x / 262144) (x / 134217728) R.G 3)=_
    rw [h.k,h.G]
  . show sinkN (x / 512) (x / 262144) (x / 134217728) R.G 3=_
    rw [h.G]
theorem unRun_ab {ρ :Nat->Nat} {R P:Pr} (h:Ab ρ R P) (T:Nat->Qo.Nd) (f:Int): ∀ m,(unRun f (T,R) m).1=(unRun f (T,P) m).1/\Ab ρ (unRun f (T,R) m).2 (unRun f (T,P) m).2
 | 0 => ⟨rfl, h⟩
 | m + 1 => by
  obtain ⟨a,b⟩:=unRun_ab h T f m
  have e1:unRun f (T,R) (m+1)=unStep (f+m) ((unRun f (T,P) m).1,(unRun f (T,R) m).2):=by rw [<- a];rfl
  have e2:unRun f (T,P) (m+1)=unStep (f+m) ((unRun f (T,P) m).1,(unRun f (T,P) m).2):=rfl
  rw [e1,e2]
  exact unStep_ab b _ _
theorem ways_ab {ρ :Nat->Nat} {R P:Pr} (h:Ab ρ R P) (hK: ∃ K,Ways K P.F P.G): ∃ K,Ways K R.F R.G:=by
 obtain ⟨K,w⟩:=hK
 refine ⟨K,w.nd,fun p=> ?_,?_,?_,?_⟩
 . rw [w.mem p,h.F p];cases P.F p <;> simp
 . rw [h.G];exact w.g9
 . rw [h.G];exact w.g18
 . rw [h.G];exact w.g27
theorem unRun_used (f:Int) (s:(Nat->Qo.Nd) × Pr) (m:Nat) (p:Int) (c:Nat) (h:(unRun f s m).2.F p=some c):s.2.F p=some c:=by
 rw [unRun_F] at h
 split at h
 . cases h
 . exact h
theorem srv2 (M:Mb) (root:Int) {i:Nat} (hi:i<16) (c:Ca.Cl) (hop:c.op=2) (s:Sa) {P:Pr} (hP:s.A i=some P) (hE:Re.errA (Re.checkN P.L c.fr c.til) (Re.chg (fun _=>Re.Rg.zero) c.fr c.til P.L)=0) (hN:Re.NumL P.L) (hB:borB P.L c.fr c.til=false) (hLE:lendsB s.I (i:Nat) c.fr c.til=false) (h1:(Re.outL (Re.checkN P.L c.fr c.til) (Re.chg (fun _=>Re.Rg.zero) c.fr c.til P.L)).length<=100) (hW: ∃ K,Ways K P.F P.G) (f0:0<=c.fr) (t1:c.til<=34359738368) (k:Nat) (hk:c.til=c.fr+k) (k1:k<=65536) :
 Srv M root i c s (Ro 0 0 0 0 false) { s.one i { (unRun c.fr (s.T,P) k).2 with L:=Re.outL (Re.checkN P.L c.fr c.til) (Re.chg (fun _=>Re.Rg.zero) c.fr c.til P.L) } with T:=(unRun c.fr (s.T,P) k).1 }:=by
 intro O n W h hn
 obtain ⟨A,B,ρ,m,ab,nm⟩:=h
 obtain ⟨R,hR,hab⟩:=ab.at hP
 obtain ⟨op,kf,k2,k3,k4,k5,ad,sz,x,k6,k7,k8,k9⟩:=c
 have hop:op=2:=hop
 subst hop
 obtain ⟨L',hL'⟩: ∃ L',Re.outL (Re.checkN P.L kf k2) (Re.chg (fun _=>Re.Rg.zero) kf k2 P.L)=L':=⟨_,rfl⟩
 have h1:L'.length<=100:=by rw [<- hL'];exact h1
 refine Calls.mono (m.serve_change i 2 kh kh kh kh kf k2 k3 k4 k5 ad sz x k6 k7 k8 k9 0 (fun O' V=> ∃ n' p' c',n'<=n+6*k/\Mn O' n' V M s.Q (unRun kf (s.T,R) k).1 root s.I (setA A i (some { (unRun kf (s.T,R) k).2 with rp:=p',rc:=c',L:=L' })) B) (fun O V V' h hs hk=>by obtain ⟨n',p',c',h0,h⟩:=h;exact ⟨n',p',c',h0,h.keep hs hk⟩) fun w hw=>hw.change2 i kf k2 k3 k4 k5 ad sz x k6 k7 k8 k9 0 _ fun w2 hw2=>Calls.mono ((hw2.unmap hi hR kf k2 k3 k4 k5 ad sz x k6 k7 k8 k9 k 0 L' (by rw [hab.L];exact hE) (by rw [hab.L];exact hL') false false (by rw [hab.L];exact hB) hLE (fun _=>by rw [hab.L];exact hN) (fun _ _ _=>⟨h1,ways_ab hab hW,f0,hk,k1,t1,by omega⟩)).mono fun e w2 q=>((q.yes rfl).no kh).no kh) (by rintro e w' ⟨rfl,n',p',c',hn',O',m',e1,e2,k⟩;exact ⟨rfl,O',⟨n',p',c',hn',m'⟩,e1,e2,k⟩)) ?_
 rintro e w' ⟨rfl,hx⟩
 refine ⟨rfl,?_⟩
 obtain ⟨ua,ub⟩:=unRun_ab hab s.T kf k
 have q:=Is.one m.lt ab nm i (I':=s.I) (T':=(unRun kf (s.T,P) k).1) (n':=n+400000) { (unRun kf (s.T,P) k).2 with L:=L' } (by
  obtain ⟨O',⟨n',p',c',hn',m'⟩,e1,e2,kk⟩:=hx
  rw [ua] at m'
  exact ⟨O',⟨_,m'.more (by omega),⟨ub.par,ub.k,ub.st,rfl,ub.G,ub.F⟩⟩,e1,e2,kk⟩) (fun p c hc=>nm.used i P p c hP (unRun_used kf (s.T,P) k p c hc))
 rw [<- hL'] at q
 exact q
theorem srv14 (M:Mb) (root:Int) {i:Nat} (hi:i<16) (c:Ca.Cl) (hop:c.op=14) (s:Sa):Srv M root i c s (Ro 0 0 0 0 false) { s with Q:=Ca.yldS s.Q }:=by
 intro O n W h hn
 obtain ⟨A,B,ρ,m,ab,nm⟩:=h
 obtain ⟨op,k1,k2,k3,k4,k5,ad,sz,x,k6,k7,k8,k9⟩:=c
 have hop:op=14:=hop
 subst hop
 refine Calls.mono (m.serve_change i 14 kh kh kh kh k1 k2 k3 k4 k5 ad sz x k6 k7 k8 k9 0 (fun O' V=>Mn O' n V M (Ca.yldS s.Q) s.T root s.I A B) (Mn.sta _ _ _ _ _ _ _ _) fun w hw=>hw.change14 i k1 k2 k3 k4 k5 ad sz x k6 k7 k8 k9) ?_
 rintro e w' ⟨rfl,hx⟩
 exact ⟨rfl,Is.same m.lt ab nm (by omega) hx⟩
theorem srv13_first (M:Mb) (root:Int) {i:Nat} (hi:i<16) (c:Ca.Cl) (hop:c.op=13) (s:Sa):Srv M root 0 c s (Ro 0 10 0 0 false) s:=by
 intro O n W h hn
 obtain ⟨A,B,ρ,m,ab,nm⟩:=h
 obtain ⟨op,k1,k2,k3,k4,k5,ad,sz,x,k6,k7,k8,k9⟩:=c
 have hop:op=13:=hop
 subst hop
 refine Calls.mono (m.serve_change 0 13 kh kh kh kh k1 k2 k3 k4 k5 ad sz x k6 k7 k8 k9 10 (fun O' V=>Mn O' n V M s.Q s.T root s.I A B) (Mn.sta _ _ _ _ _ _ _ _) fun w hw=>hw.change13 0 k1 k2 k3 k4 k5 ad sz x k6 k7 k8 k9 10 _ fun w2 hw2=>Calls.mono (exit_first M.mb w2) k61) ?_
 rintro e w' ⟨rfl,hx⟩
 exact ⟨rfl,Is.same m.lt ab nm (by omega) hx⟩
theorem srv13 (M:Mb) (root:Int) {i:Nat} (hi:i<16) (c:Ca.Cl) (hop:c.op=13) (s:Sa) (i0:i≠0) (f:Nat) (ok:EndOk f i s) (hk:endK f i s<=60000):Srv M root i c s (Ro 0 0 0 0 false) (endS f i s):=by
 intro O n W h hn
 obtain ⟨A,B,ρ,m,ab,nm⟩:=h
 obtain ⟨op,k1,k2,k3,k4,k5,ad,sz,x,k6,k7,k8,k9⟩:=c
 have hop:op=13:=hop
 subst hop
 refine Calls.mono (m.serve_change i 13 kh kh kh kh k1 k2 k3 k4 k5 ad sz x k6 k7 k8 k9 0 (fun O' V=>Is O' (n+400000) V M root (endS f i s)) (Is.sta _ _ _ _) fun w hw=>hw.change13 i k1 k2 k3 k4 k5 ad sz x k6 k7 k8 k9 0 _ fun w2 hw2=>hw2.exit i i0 _ fun w3 hw3=>Calls.mono (end_any f i s hi ok O n w3 M root ⟨A,B,ρ,hw3,ab,nm⟩ (by omega)) (by
  rintro e w' ⟨rfl,O',h,e1,e2,k⟩
  exact ⟨rfl,O',h.more (by omega),e1,e2,k⟩)) ?_
 rintro e w' ⟨rfl,hx⟩
 exact ⟨rfl,hx⟩
theorem AbA.low {ρ :Nat->Nat} {A A':Nat->Option Pr} (e:AbA ρ A A'): ∀ f m,lowA A m f=lowA A' m f
 | 0, m => rfl
 | f + 1, m => by
  have q:(A m).isSome=(A' m).isSome:=by
   rcases e m with ⟨h1,h2⟩ | ⟨R,P,h1,h2,_⟩
   . rw [h1,h2]
   . rw [h1,h2];rfl
  rw [lowA,lowA,q,e.low f (m+1)]
theorem srv12_big (M:Mb) (root:Int) {i:Nat} (hi:i<16) (c:Ca.Cl) (hop:c.op=12) (s:Sa) {P:Pr} (hP:s.A i=some P) (hp:lowA s.A 0 16=16):Srv M root i c s (Ro 0 4 0 0 false) s:=by
 intro O n W h hn
 obtain ⟨A,B,ρ,m,ab,nm⟩:=h
 obtain ⟨R,hR,hab⟩:=ab.at hP
 obtain ⟨op,k1,k2,k3,k4,k5,ad,sz,x,k6,k7,k8,k9⟩:=c
 have hop:op=12:=hop
 subst hop
 refine Calls.mono (m.serve12 i k1 k2 k3 k4 k5 ad sz x k6 k7 k8 k9 0 0 4 0 0 false (fun O' V=>Mn O' n V M s.Q s.T root s.I A B) (Mn.sta _ _ _ _ _ _ _ _) fun w hw=>hw.spawn hi hR k6 0 4 rfl (fun O' V=>Mn O' n V M s.Q s.T root s.I A B) (Mn.sta _ _ _ _ _ _ _ _) fun w2 hw2=>Calls.mono (hw2.begin_big (i:Nat) R.k k6 16 (by rw [ab.low];exact hp) rfl) k61) ?_
 rintro e w' ⟨rfl,hx⟩
 exact ⟨rfl,Is.same m.lt ab nm (by omega) hx⟩
theorem srv12_child (M:Mb) (root:Int) {i:Nat} (hi:i<16) (c:Ca.Cl) (hop:c.op=12) (s:Sa) {P:Pr} (hP:s.A i=some P) (p:Nat) (hp:lowA s.A 0 16=p) (p16:p<16) (E:Int) (E0:E≠0) (hc:Qo.childN s.T P.k c.id=E):Srv M root i c s (Ro 0 E 0 0 false) s:=by
 intro O n W h hn
 obtain ⟨A,B,ρ,m,ab,nm⟩:=h
 obtain ⟨R,hR,hab⟩:=ab.at hP
 obtain ⟨op,k1,k2,k3,k4,k5,ad,sz,x,k6,k7,k8,k9⟩:=c
 have hop:op=12:=hop
 subst hop
 refine Calls.mono (m.serve12 i k1 k2 k3 k4 k5 ad sz x k6 k7 k8 k9 0 0 E 0 0 false (fun O' V=>Mn O' n V M s.Q s.T root s.I A B) (Mn.sta _ _ _ _ _ _ _ _) fun w hw=>hw.spawn hi hR k6 0 E rfl (fun O' V=>Mn O' n V M s.Q s.T root s.I A B) (Mn.sta _ _ _ _ _ _ _ _) fun w2 hw2=>hw2.begin_child (i:Nat) R.k k6 p (by rw [ab.low];exact hp) p16 E E0 (by rw [hab.k];exact hc)) ?_
 rintro e w' ⟨rfl,hx⟩
 exact ⟨rfl,Is.same m.lt ab nm (by omega) hx⟩
theorem srv12_charge (M:Mb) (root:Int) {i:Nat} (hi:i<16) (c:Ca.Cl) (hop:c.op=12) (s:Sa) {P:Pr} (hP:s.A i=some P) (p:Nat) (hp:lowA s.A 0 16=p) (p16:p<16) (hc:Qo.childN s.T P.k c.id=0) (oi:Int) (hoi:Qo.childI s.T P.k c.id=oi) (E:Int) (E0:E≠0) (hm:Qo.mayN (Qo.childT s.T P.k c.id) oi 1=E):Srv M root i c s (Ro 0 E 0 0 false) { s with T:=Qo.endT (Qo.childT s.T P.k c.id) oi }:=by
 intro O n W h hn
 obtain ⟨A,B,ρ,m,ab,nm⟩:=h
 obtain ⟨R,hR,hab⟩:=ab.at hP
 obtain ⟨op,k1,k2,k3,k4,k5,ad,sz,x,k6,k7,k8,k9⟩:=c
 have hop:op=12:=hop
 subst hop
 refine Calls.mono (m.serve12 i k1 k2 k3 k4 k5 ad sz x k6 k7 k8 k9 0 0 E 0 0 false (fun O' V=>Mn O' n V M s.Q (Qo.endT (Qo.childT s.T P.k k6) oi) root s.I A B) (Mn.sta _ _ _ _ _ _ _ _) fun w hw=>hw.spawn hi hR k6 0 E rfl (fun O' V=>Mn O' n V M s.Q (Qo.endT (Qo.childT s.T P.k k6) oi) root s.I A B) (Mn.sta _ _ _ _ _ _ _ _) fun w2 hw2=>hw2.begin_charge (i:Nat) R.k k6 p (by rw [ab.low];exact hp) p16 (by rw [hab.k];exact hc) oi (by rw [hab.k];exact hoi) (Qo.childT s.T P.k k6) (by rw [hab.k]) E E0 hm) ?_
 rintro e w' ⟨rfl,hx⟩
 exact ⟨rfl,Is.same m.lt ab nm (by omega) hx⟩
theorem srv12 (M:Mb) (root:Int) {i:Nat} (hi:i<16) (c:Ca.Cl) (hop:c.op=12) (s:Sa) {P:Pr} (hP:s.A i=some P) (p:Nat) (hp:lowA s.A 0 16=p) (p16:p<16) (hA:s.A p=none) (gq:Ca.Good s.Q) (hc:Qo.childN s.T P.k c.id=0) (oi:Int) (hoi:Qo.childI s.T P.k c.id=oi) (hm:Qo.mayN (Qo.childT s.T P.k c.id) oi 1=0):Srv M root i c s (Ro (p:Nat) 0 0 0 false) { s with Q:=Ca.addS s.Q (p:Nat),T:=Qo.chargeT (Qo.childT s.T P.k c.id) oi 1,A:=setA s.A p (some ⟨0,0,0,(i:Nat),oi,Tr.St.zero,none,0,[],fun _=>none,fun _ _=>none⟩) }:=by
 intro O n W h hn
 obtain ⟨A,B,ρ,m,ab,nm⟩:=h
 obtain ⟨R,hR,hab⟩:=ab.at hP
 obtain ⟨op,k1,k2,k3,k4,k5,ad,sz,x,k6,k7,k8,k9⟩:=c
 have hop:op=12:=hop
 subst hop
 refine Calls.mono (m.serve12 i k1 k2 k3 k4 k5 ad sz x k6 k7 k8 k9 0 (p:Nat) 0 0 0 false (fun O' V=> ∃ pb lb wb,Mn O' (n+1) V M (Ca.addS s.Q (p:Nat)) (Qo.chargeT (Qo.childT s.T P.k k6) oi 1) root s.I (setA A p (some ⟨pb,lb,wb,(i:Nat),oi,Tr.St.zero,none,0,[],fun _=>none,fun _ _=>none⟩)) B) (fun O V V' h hs hk=>by obtain ⟨pb,lb,wb,h⟩:=h;exact ⟨pb,lb,wb,h.keep hs hk⟩) fun w hw=>hw.spawn hi hR k6 (p:Nat) 0 (by rw [IntKind.wrap_u64,Int.emod_eq_of_lt (by omega) (by omega)]) (fun O' V=> ∃ pb lb wb,Mn O' (n+1) V M (Ca.addS s.Q (p:Nat)) (Qo.chargeT (Qo.childT s.T P.k k6) oi 1) root s.I (setA A p (some ⟨pb,lb,wb,(i:Nat),oi,Tr.St.zero,none,0,[],fun _=>none,fun _ _=>none⟩)) B) (fun O V V' h hs hk=>by obtain ⟨pb,lb,wb,h⟩:=h;exact ⟨pb,lb,wb,h.keep hs hk⟩) fun w2 hw2=>Calls.mono (hw2.begin (i:Nat) R.k k6 p (by rw [ab.low];exact hp) p16 (by rw [hab.k];exact hc) oi (by rw [hab.k];exact hoi) (Qo.childT s.T P.k k6) (by rw [hab.k]) hm gq (ab.nobody hA) (by omega)) (by rintro e w' ⟨rfl,pb,lb,wb,O',h,e1,e2,k⟩;exact ⟨rfl,O',⟨pb,lb,wb,h⟩,e1,e2,k⟩)) ?_
 rintro e w' ⟨rfl,O',⟨pb,lb,wb,m'⟩,e1,e2,k⟩
 exact ⟨rfl,O',⟨_,B,ρ,m'.more (by omega),ab.set p (P:=⟨0,0,0,(i:Nat),oi,Tr.St.zero,none,0,[],fun _=>none,fun _ _=>none⟩) ⟨rfl,rfl,rfl,rfl,rfl,fun _=>rfl⟩,nm.keep (fun j hj=>e1 j (m.lt j hj)) rfl rfl (used_set nm.used p ⟨0,0,0,(i:Nat),oi,Tr.St.zero,none,0,[],fun _=>none,fun _ _=>none⟩ (fun p c h=>by cases h))⟩,e1,e2,k⟩
theorem AbA.prF {ρ :Nat->Nat} {A A':Nat->Option Pr} (e:AbA ρ A A') {j:Nat} (j16:j<16) (h:A' j≠none):Fl.prF A (j:Nat)≠none:=by
 rw [prF_nat,if_pos j16]
 rcases e j with ⟨_,h2⟩ | ⟨R2,P2,h1,_,_⟩
 . exact absurd h2 h
 . rw [h1];simp
theorem lend_ab {ρ :Nat->Nat} {R P:Pr} (h:Ab ρ R P) (pg:Int) (wr:Bool):lendE R pg wr=lendE P pg wr:=by
 unfold lendE
 rw [h.L,h.F pg]
 cases P.F pg <;> simp
theorem srv6_none (M:Mb) (root:Int) {i:Nat} (hi:i<16) (c:Ca.Cl) (hop:c.op=6) (s:Sa) {P:Pr} (hP:s.A i=some P) (j:Nat) (hj:c.id=(j:Nat)) (j16:j<16) (hJ:s.A j=none):Srv M root i c s (Ro 0 5 0 0 false) s:=by
 intro O n W h hn
 obtain ⟨A,B,ρ,m,ab,nm⟩:=h
 obtain ⟨R,hR,hab⟩:=ab.at hP
 obtain ⟨op,k1,k2,k3,k4,k5,ad,sz,x,k6,k7,k8,k9⟩:=c
 have hop:op=6:=hop
 subst hop
 have hj:k6=(j:Nat):=hj
 subst hj
 have hw6:(Lit.int .i64 (j:Nat)).wf=true:=wf64 (by omega) (by omega)
 refine Calls.mono (m.serve6 i k1 k2 k3 k4 k5 ad sz x (j:Nat) k7 k8 k9 0 0 5 0 0 false (fun O' V=>Mn O' n V M s.Q s.T root s.I A B) (Mn.sta _ _ _ _ _ _ _ _) fun w hw=>Calls.mono (hw.offer_none hi hR k1 k2 k3 k4 k5 ad sz x (j:Nat) k7 k8 k9 hw6 (by rw [prF_nat,if_pos j16,ab.nobody hJ];rfl)) (by rintro e w' ⟨rfl,hb⟩;exact ⟨rfl,hw.tx_below hb⟩)) ?_
 rintro e w' ⟨rfl,hx⟩
 exact ⟨rfl,Is.same m.lt ab nm (by omega) hx⟩
theorem srv6_self (M:Mb) (root:Int) {i:Nat} (hi:i<16) (c:Ca.Cl) (hop:c.op=6) (s:Sa) {P:Pr} (hP:s.A i=some P) (j:Nat) (hj:c.id=(j:Nat)) (j16:j<16) (hJ:s.A j≠none) (hk:j=i):Srv M root i c s (Ro 0 5 0 0 false) s:=by
 intro O n W h hn
 obtain ⟨A,B,ρ,m,ab,nm⟩:=h
 obtain ⟨R,hR,hab⟩:=ab.at hP
 obtain ⟨op,k1,k2,k3,k4,k5,ad,sz,x,k6,k7,k8,k9⟩:=c
 have hop:op=6:=hop
 subst hop
 have hj:k6=(j:Nat):=hj
 subst hj
 have hw6:(Lit.int .i64 (j:Nat)).wf=true:=wf64 (by omega) (by omega)
 refine Calls.mono (m.serve6 i k1 k2 k3 k4 k5 ad sz x (j:Nat) k7 k8 k9 0 0 5 0 0 false (fun O' V=>Mn O' n V M s.Q s.T root s.I A B) (Mn.sta _ _ _ _ _ _ _ _) fun w hw=>Calls.mono (hw.offer_self hi hR k1 k2 k3 k4 k5 ad sz x (j:Nat) k7 k8 k9 hw6 (ab.prF j16 hJ) (by rw [hk])) (by rintro e w' ⟨rfl,hb⟩;exact ⟨rfl,hw.tx_below hb⟩)) ?_
 rintro e w' ⟨rfl,hx⟩
 exact ⟨rfl,Is.same m.lt ab nm (by omega) hx⟩
theorem srv6_no (M:Mb) (root:Int) {i:Nat} (hi:i<16) (c:Ca.Cl) (hop:c.op=6) (s:Sa) {P:Pr} (hP:s.A i=some P) (j:Nat) (hj:c.id=(j:Nat)) (j16:j<16) (hJ:s.A j≠none) (hk:j≠i) (p0:0<=c.fr) (p1:c.fr<34359738368) (E:Int) (E0:E≠0) (hl:lendE P c.fr c.pw=E):Srv M root i c s (Ro 0 E 0 0 false) s:=by
 intro O n W h hn
 obtain ⟨A,B,ρ,m,ab,nm⟩:=h
 obtain ⟨R,hR,hab⟩:=ab.at hP
 obtain ⟨op,k1,k2,k3,k4,k5,ad,sz,x,k6,k7,k8,k9⟩:=c
 have hop:op=6:=hop
 subst hop
 have hj:k6=(j:Nat):=hj
 subst hj
 have hw6:(Lit.int .i64 (j:Nat)).wf=true:=wf64 (by omega) (by omega)
 refine Calls.mono (m.serve6 i k1 k2 k3 k4 k5 ad sz x (j:Nat) k7 k8 k9 0 0 E 0 0 false (fun O' V=>Mn O' n V M s.Q s.T root s.I A B) (Mn.sta _ _ _ _ _ _ _ _) fun w hw=>Calls.mono ((hw.offer hi hR k1 k2 k3 k4 k5 ad sz x (j:Nat) k7 k8 k9 hw6 (ab.prF j16 hJ) (by omega) p0 p1 E (by rw [lend_ab hab];exact hl)).mono fun e w9 q=>q.no E0) (by rintro e w' ⟨rfl,hb⟩;exact ⟨rfl,hw.tx_below hb⟩)) ?_
 rintro e w' ⟨rfl,hx⟩
 exact ⟨rfl,Is.same m.lt ab nm (by omega) hx⟩
theorem srv6 (M:Mb) (root:Int) {i:Nat} (hi:i<16) (c:Ca.Cl) (hop:c.op=6) (s:Sa) {P:Pr} (hP:s.A i=some P) (j:Nat) (hj:c.id=(j:Nat)) (j16:j<16) (hJ:s.A j≠none) (hk:j≠i) (p0:0<=c.fr) (p1:c.fr<34359738368) (hl:lendE P c.fr c.pw=0):Srv M root i c s (Ro (Sh.offI s.I (i:Nat) c.fr c.id) (Sh.offE s.I (i:Nat) c.fr c.id) 0 0 false) { s with I:=Sh.offT s.I (i:Nat) c.fr c.id c.pw }:=by
 intro O n W h hn
 obtain ⟨A,B,ρ,m,ab,nm⟩:=h
 obtain ⟨R,hR,hab⟩:=ab.at hP
 obtain ⟨op,k1,k2,k3,k4,k5,ad,sz,x,k6,k7,k8,k9⟩:=c
 have hop:op=6:=hop
 subst hop
 have hj:k6=(j:Nat):=hj
 subst hj
 have hw6:(Lit.int .i64 (j:Nat)).wf=true:=wf64 (by omega) (by omega)
 refine Calls.mono (m.serve6 i k1 k2 k3 k4 k5 ad sz x (j:Nat) k7 k8 k9 0 (Sh.offI s.I (i:Nat) k1 (j:Nat)) (Sh.offE s.I (i:Nat) k1 (j:Nat)) 0 0 false (fun O' V=>Mn O' n V M s.Q s.T root (Sh.offT s.I (i:Nat) k1 (j:Nat) k3) A B) (Mn.sta _ _ _ _ _ _ _ _) fun w hw=>(hw.offer hi hR k1 k2 k3 k4 k5 ad sz x (j:Nat) k7 k8 k9 hw6 (ab.prF j16 hJ) (by omega) p0 p1 0 (by rw [lend_ab hab];exact hl)).mono fun e w9 q=>q.yes rfl) ?_
 rintro e w' ⟨rfl,hx⟩
 exact ⟨rfl,Is.same m.lt ab nm (by omega) hx⟩
theorem srv8_no (M:Mb) (root:Int) {i:Nat} (hi:i<16) (c:Ca.Cl) (hop:c.op=8) (s:Sa) (E:Int) (E0:E≠0) (ha:Sh.revE s.I c.id (i:Nat)=E):Srv M root i c s (Ro 0 E 0 0 false) s:=by
 intro O n W h hn
 obtain ⟨A,B,ρ,m,ab,nm⟩:=h
 obtain ⟨op,k1,k2,k3,k4,k5,ad,sz,x,k6,k7,k8,k9⟩:=c
 have hop:op=8:=hop
 subst hop
 obtain ⟨gr,hg⟩: ∃ gr,Sh.revG s.I k6 (i:Nat)=gr:=⟨_,rfl⟩
 obtain ⟨gf,gp,gd,gw,gt,ga⟩:=gr
 refine Calls.mono (m.serve_change i 8 kh kh kh kh k1 k2 k3 k4 k5 ad sz x k6 k7 k8 k9 E (fun O' V=>Mn O' n V M s.Q s.T root s.I A B) (Mn.sta _ _ _ _ _ _ _ _) fun w hw=>hw.change8 i k1 k2 k3 k4 k5 ad sz x k6 k7 k8 k9 E _ fun w2 hw2=>hw2.revoke_no i k1 k2 k3 k4 k5 ad sz x k6 k7 k8 k9 gf gp gd ga gw gt hg E E0 ha) ?_
 rintro e w' ⟨rfl,hx⟩
 exact ⟨rfl,Is.same m.lt ab nm (by omega) hx⟩
theorem srv8 (M:Mb) (root:Int) {i:Nat} (hi:i<16) (c:Ca.Cl) (hop:c.op=8) (s:Sa) (ha:Sh.revE s.I c.id (i:Nat)=0) (gr:Sh.Gr) (hg:Sh.revG s.I c.id (i:Nat)=gr) (s1:Sa) (hs:s1={ s with I:=Sh.revT s.I c.id (i:Nat) }) (ok:GiveOk s1 gr):Srv M root i c s (Ro 0 0 0 0 false) (giveS s1 gr):=by
 intro O n W h hn
 obtain ⟨A,B,ρ,m,ab,nm⟩:=h
 obtain ⟨op,k1,k2,k3,k4,k5,ad,sz,x,k6,k7,k8,k9⟩:=c
 have hop:op=8:=hop
 subst hop
 subst hs
 obtain ⟨gf,gp,gd,gw,gt,ga⟩:=gr
 obtain ⟨I1,hI1⟩: ∃ I1,Sh.revT s.I k6 (i:Nat)=I1:=⟨_,rfl⟩
 have ok:GiveOk { s with I:=I1 } ⟨gf,gp,gd,gw,gt,ga⟩:=by rw [<- hI1];exact ok
 show Calls _ _ _ _ fun e w'=>_/\Tx O W (fun O' V=>Is O' (n+400000) V M root (giveS { s with I:=Sh.revT s.I k6 (i:Nat) } ⟨gf,gp,gd,gw,gt,ga⟩)) w'
 rw [hI1]
 refine Calls.mono (m.serve_change i 8 kh kh kh kh k1 k2 k3 k4 k5 ad sz x k6 k7 k8 k9 0 (fun O' V=>Is O' (n+6) V M root (giveS { s with I:=I1 } ⟨gf,gp,gd,gw,gt,ga⟩)) (Is.sta _ _ _ _) fun w hw=>hw.change8 i k1 k2 k3 k4 k5 ad sz x k6 k7 k8 k9 0 _ fun w2 hw2=>hw2.revoke i k1 k2 k3 k4 k5 ad sz x k6 k7 k8 k9 gf gp gd ga gw gt hg ha I1 hI1 _ fun w3 hw3=> ?_) ?_
 rotate_left
 . rintro e w' ⟨rfl,O',h,e1,e2,k⟩
   exact ⟨rfl,O',h.more (by omega),e1,e2,k⟩
 . exact Is.give (s:={ s with I:=I1 }) ⟨A,B,ρ,hw3,ab,nm.inj,nm.nine,nm.used⟩ ⟨gf,gp,gd,gw,gt,ga⟩ ok (by omega)
theorem srv9_no (M:Mb) (root:Int) {i:Nat} (hi:i<16) (c:Ca.Cl) (hop:c.op=9) (s:Sa) (E:Int) (E0:E≠0) (ha:Sh.leaE s.I c.id (i:Nat)=E):Srv M root i c s (Ro 0 E 0 0 false) s:=by
 intro O n W h hn
 obtain ⟨A,B,ρ,m,ab,nm⟩:=h
 obtain ⟨op,k1,k2,k3,k4,k5,ad,sz,x,k6,k7,k8,k9⟩:=c
 have hop:op=9:=hop
 subst hop
 obtain ⟨gr,hg⟩: ∃ gr,Sh.leaG s.I k6 (i:Nat)=gr:=⟨_,rfl⟩
 obtain ⟨gf,gp,gd,gw,gt,ga⟩:=gr
 refine Calls.mono (m.serve_change i 9 kh kh kh kh k1 k2 k3 k4 k5 ad sz x k6 k7 k8 k9 E (fun O' V=>Mn O' n V M s.Q s.T root s.I A B) (Mn.sta _ _ _ _ _ _ _ _) fun w hw=>hw.change9 i k1 k2 k3 k4 k5 ad sz x k6 k7 k8 k9 E _ fun w2 hw2=>hw2.leave_no i k1 k2 k3 k4 k5 ad sz x k6 k7 k8 k9 gf gp gd ga gw gt hg E E0 ha) ?_
 rintro e w' ⟨rfl,hx⟩
 exact ⟨rfl,Is.same m.lt ab nm (by omega) hx⟩
theorem srv9 (M:Mb) (root:Int) {i:Nat} (hi:i<16) (c:Ca.Cl) (hop:c.op=9) (s:Sa) (ha:Sh.leaE s.I c.id (i:Nat)=0) (gr:Sh.Gr) (hg:Sh.leaG s.I c.id (i:Nat)=gr) (s1:Sa) (hs:s1={ s with I:=Sh.leaT s.I c.id (i:Nat) }) (ok:GiveOk s1 gr):Srv M root i c s (Ro 0 0 0 0 false) (giveS s1 gr):=by
 intro O n W h hn
 obtain ⟨A,B,ρ,m,ab,nm⟩:=h
 obtain ⟨op,k1,k2,k3,k4,k5,ad,sz,x,k6,k7,k8,k9⟩:=c
 have hop:op=9:=hop
 subst hop
 subst hs
 obtain ⟨gf,gp,gd,gw,gt,ga⟩:=gr
 obtain ⟨I1,hI1⟩: ∃ I1,Sh.leaT s.I k6 (i:Nat)=I1:=⟨_,rfl⟩
 have ok:GiveOk { s with I:=I1 } ⟨gf,gp,gd,gw,gt,ga⟩:=by rw [<- hI1];exact ok
 show Calls _ _ _ _ fun e w'=>_/\Tx O W (fun O' V=>Is O' (n+400000) V M root (giveS { s with I:=Sh.leaT s.I k6 (i:Nat) } ⟨gf,gp,gd,gw,gt,ga⟩)) w'
 rw [hI1]
 refine Calls.mono (m.serve_change i 9 kh kh kh kh k1 k2 k3 k4 k5 ad sz x k6 k7 k8 k9 0 (fun O' V=>Is O' (n+6) V M root (giveS { s with I:=I1 } ⟨gf,gp,gd,gw,gt,ga⟩)) (Is.sta _ _ _ _) fun w hw=>hw.change9 i k1 k2 k3 k4 k5 ad sz x k6 k7 k8 k9 0 _ fun w2 hw2=>hw2.leave i k1 k2 k3 k4 k5 ad sz x k6 k7 k8 k9 gf gp gd ga gw gt hg ha I1 hI1 _ fun w3 hw3=> ?_) ?_
 rotate_left
 . rintro e w' ⟨rfl,O',h,e1,e2,k⟩
   exact ⟨rfl,O',h.more (by omega),e1,e2,k⟩
 . exact Is.give (s:={ s with I:=I1 }) ⟨A,B,ρ,hw3,ab,nm.inj,nm.nine,nm.used⟩ ⟨gf,gp,gd,gw,gt,ga⟩ ok (by omega)
theorem srv7_no (M:Mb) (root:Int) {i:Nat} (hi:i<16) (c:Ca.Cl) (hop:c.op=7) (s:Sa) (E:Int) (E0:E≠0) (ha:Sh.accE s.I c.id (i:Nat) c.fr=E):Srv M root i c s (Ro 0 E 0 0 false) s:=by
 intro O n W h hn
 obtain ⟨A,B,ρ,m,ab,nm⟩:=h
 obtain ⟨op,k1,k2,k3,k4,k5,ad,sz,x,k6,k7,k8,k9⟩:=c
 have hop:op=7:=hop
 subst hop
 refine Calls.mono (m.serve_change i 7 kh kh kh kh k1 k2 k3 k4 k5 ad sz x k6 k7 k8 k9 E (fun O' V=>Mn O' n V M s.Q s.T root s.I A B) (Mn.sta _ _ _ _ _ _ _ _) fun w hw=>hw.change7 i k1 k2 k3 k4 k5 ad sz x k6 k7 k8 k9 E _ fun w2 hw2=>hw2.accept_no i k1 k2 k3 k4 k5 ad sz x k6 k7 k8 k9 E E0 ha) ?_
 rintro e w' ⟨rfl,hx⟩
 exact ⟨rfl,Is.same m.lt ab nm (by omega) hx⟩
theorem srv7_lend (M:Mb) (root:Int) {i:Nat} (hi:i<16) (c:Ca.Cl) (hop:c.op=7) (s:Sa) (ha:Sh.accE s.I c.id (i:Nat) c.fr=0) (I1:Nat->Sh.Gr) (hI1:Sh.accT s.I c.id (i:Nat) c.fr=I1) (sr d:Nat) (gp:Int) (gw gt:Bool) (a:Int) (hg:Sh.getG I1 c.id=⟨(sr:Nat),gp,(d:Nat),gw,gt,a⟩) (s16:sr<16) (d16:d<16) (hne:sr≠d) {PS PD:Pr} (hS:s.A sr=some PS) (hD:s.A d=some PD) (p0:0<=gp) (p1:gp<34359738368) (E:Int) (E0:E≠0) (hl:lendE PS gp gw=E):Srv M root i c s (Ro 0 E 0 0 false) { s with I:=Sh.leaT I1 c.id (i:Nat) }:=by
 intro O n W h hn
 obtain ⟨A,B,ρ,m,ab,nm⟩:=h
 obtain ⟨op,k1,k2,k3,k4,k5,ad,sz,x,k6,k7,k8,k9⟩:=c
 have hop:op=7:=hop
 subst hop
 obtain ⟨RS,hRS,hs⟩:=ab.at hS
 obtain ⟨RD,hRD,hd⟩:=ab.at hD
 obtain ⟨gb,hgb⟩: ∃ gb,Sh.Gr.is ⟨(sr:Nat),gp,(d:Nat),gw,gt,a⟩=gb:=⟨_,rfl⟩
 refine Calls.mono (m.serve_change i 7 kh kh kh kh k1 k2 k3 k4 k5 ad sz x k6 k7 k8 k9 E (fun O' V=>Mn O' n V M s.Q s.T root (Sh.leaT I1 k6 (i:Nat)) A B) (Mn.sta _ _ _ _ _ _ _ _) fun w hw=>hw.change7 i k1 k2 k3 k4 k5 ad sz x k6 k7 k8 k9 E _ fun w2 hw2=>hw2.accept_lend i k1 k2 k3 k4 k5 ad sz x k6 k7 k8 k9 ha I1 hI1 (sr:Nat) gp (d:Nat) a gw gt gb hg hgb E E0 n s.T A fun w3 hw3=>Calls.mono ((hw3.lend s16 hRS d16 hRD hne gp a gw gt p0 p1 E _ _ _ 0 (by rw [lend_ab hs];exact hl) rfl rfl rfl (fun z=>absurd z E0) (fun z=>absurd z E0) (fun z=>absurd z E0)).mono fun e w9 q=>q.no E0) (by rintro e w' ⟨rfl,hb⟩;exact ⟨rfl,hw3.tx_below hb⟩)) ?_
 rintro e w' ⟨rfl,hx⟩
 exact ⟨rfl,Is.same m.lt ab nm (by omega) hx⟩
theorem srv7_add (M:Mb) (root:Int) {i:Nat} (hi:i<16) (c:Ca.Cl) (hop:c.op=7) (s:Sa) (ha:Sh.accE s.I c.id (i:Nat) c.fr=0) (I1:Nat->Sh.Gr) (hI1:Sh.accT s.I c.id (i:Nat) c.fr=I1) (sr d:Nat) (gp:Int) (gw gt:Bool) (a:Int) (hg:Sh.getG I1 c.id=⟨(sr:Nat),gp,(d:Nat),gw,gt,a⟩) (s16:sr<16) (d16:d<16) (hne:sr≠d) {PS PD:Pr} (hS:s.A sr=some PS) (hD:s.A d=some PD) (p0:0<=gp) (p1:gp<34359738368) (E:Int) (E0:E≠0) (hl:lendE PS gp gw=0) (a0:0<=a) (a1:a<34359738368) (hE:Re.errA (Re.addN PD.L ⟨a,a+1,gw,true,false,1⟩) (Re.addL PD.L ⟨a,a+1,gw,true,false,1⟩)=E):Srv M root i c s (Ro 0 E 0 0 false) { s with I:=Sh.leaT I1 c.id (i:Nat) }:=by
 intro O n W h hn
 obtain ⟨A,B,ρ,m,ab,nm⟩:=h
 obtain ⟨op,k1,k2,k3,k4,k5,ad,sz,x,k6,k7,k8,k9⟩:=c
 have hop:op=7:=hop
 subst hop
 obtain ⟨RS,hRS,hs⟩:=ab.at hS
 obtain ⟨RD,hRD,hd⟩:=ab.at hD
 obtain ⟨gb,hgb⟩: ∃ gb,Sh.Gr.is ⟨(sr:Nat),gp,(d:Nat),gw,gt,a⟩=gb:=⟨_,rfl⟩
 refine Calls.mono (m.serve_change i 7 kh kh kh kh k1 k2 k3 k4 k5 ad sz x k6 k7 k8 k9 E (fun O' V=>Mn O' n V M s.Q s.T root (Sh.leaT I1 k6 (i:Nat)) A B) (Mn.sta _ _ _ _ _ _ _ _) fun w hw=>hw.change7 i k1 k2 k3 k4 k5 ad sz x k6 k7 k8 k9 E _ fun w2 hw2=>hw2.accept_lend i k1 k2 k3 k4 k5 ad sz x k6 k7 k8 k9 ha I1 hI1 (sr:Nat) gp (d:Nat) a gw gt gb hg hgb E E0 n s.T A fun w3 hw3=>Calls.mono ((hw3.lend s16 hRS d16 hRD hne gp a gw gt p0 p1 0 E _ _ 0 (by rw [lend_ab hs];exact hl) (by rw [hd.L];exact hE) rfl rfl (fun _=>⟨a0,a1⟩) (fun _ z=>absurd z E0) (fun _ z=>absurd z E0)).mono fun e w9 q=>(q.yes rfl).no E0) (by rintro e w' ⟨rfl,hb⟩;exact ⟨rfl,hw3.tx_below hb⟩)) ?_
 rintro e w' ⟨rfl,hx⟩
 exact ⟨rfl,Is.same m.lt ab nm (by omega) hx⟩
theorem srv7_full (M:Mb) (root:Int) {i:Nat} (hi:i<16) (c:Ca.Cl) (hop:c.op=7) (s:Sa) (ha:Sh.accE s.I c.id (i:Nat) c.fr=0) (I1:Nat->Sh.Gr) (hI1:Sh.accT s.I c.id (i:Nat) c.fr=I1) (sr d:Nat) (gp:Int) (gw gt:Bool) (a:Int) (hg:Sh.getG I1 c.id=⟨(sr:Nat),gp,(d:Nat),gw,gt,a⟩) (s16:sr<16) (d16:d<16) (hne:sr≠d) {PS PD:Pr} (hS:s.A sr=some PS) (hD:s.A d=some PD) (p0:0<=gp) (p1:gp<34359738368) (E:Int) (E0:E≠0) (hl:lendE PS gp gw=0) (a0:0<=a) (a1:a<34359738368) (hE:Re.errA (Re.addN PD.L ⟨a,a+1,gw,true,false,1⟩) (Re.addL PD.L ⟨a,a+1,gw,true,false,1⟩)=0) (b:Nat) (hF:PS.F gp=some b) (hm:Qo.mayN s.T PD.k (costK 0 (a / 512) (a / 262144) (a / 134217728) PD.G 3)=E):Srv M root i c s (Ro 0 E 0 0 false) { s with I:=Sh.leaT I1 c.id (i:Nat) }:=by
 intro O n W h hn
 obtain ⟨A,B,ρ,m,ab,nm⟩:=h
 obtain ⟨op,k1,k2,k3,k4,k5,ad,sz,x,k6,k7,k8,k9⟩:=c
 have hop:op=7:=hop
 subst hop
 obtain ⟨RS,hRS,hs⟩:=ab.at hS
 obtain ⟨RD,hRD,hd⟩:=ab.at hD
 obtain ⟨gb,hgb⟩: ∃ gb,Sh.Gr.is ⟨(sr:Nat),gp,(d:Nat),gw,gt,a⟩=gb:=⟨_,rfl⟩
 refine Calls.mono (m.serve_change i 7 kh kh kh kh k1 k2 k3 k4 k5 ad sz x k6 k7 k8 k9 E (fun O' V=>Mn O' (n+6) V M s.Q s.T root (Sh.leaT I1 k6 (i:Nat)) A B) (Mn.sta _ _ _ _ _ _ _ _) fun w hw=>hw.change7 i k1 k2 k3 k4 k5 ad sz x k6 k7 k8 k9 E _ fun w2 hw2=>hw2.accept_lend i k1 k2 k3 k4 k5 ad sz x k6 k7 k8 k9 ha I1 hI1 (sr:Nat) gp (d:Nat) a gw gt gb hg hgb E E0 (n+6) s.T A fun w3 hw3=>(hw3.lend s16 hRS d16 hRD hne gp a gw gt p0 p1 0 0 E _ (ρ b) (by rw [lend_ab hs];exact hl) (by rw [hd.L];exact hE) rfl (by rw [hd.k,hd.G];exact hm) (fun _=>⟨a0,a1⟩) (fun _ _=>⟨by rw [hs.F,hF];rfl,by omega⟩) (fun _ _ z=>absurd z E0)).mono fun e w9 q=>((q.yes rfl).yes rfl).no E0) ?_
 rintro e w' ⟨rfl,hx⟩
 exact ⟨rfl,Is.same m.lt ab nm (by omega) hx⟩
theorem srv7 (M:Mb) (root:Int) {i:Nat} (hi:i<16) (c:Ca.Cl) (hop:c.op=7) (s:Sa) (ha:Sh.accE s.I c.id (i:Nat) c.fr=0) (I1:Nat->Sh.Gr) (hI1:Sh.accT s.I c.id (i:Nat) c.fr=I1) (sr d:Nat) (gp:Int) (gw gt:Bool) (a:Int) (hg:Sh.getG I1 c.id=⟨(sr:Nat),gp,(d:Nat),gw,gt,a⟩) (s16:sr<16) (d16:d<16) (hne:sr≠d) {PS PD:Pr} (hS:s.A sr=some PS) (hD:s.A d=some PD) (p0:0<=gp) (p1:gp<34359738368) (hl:lendE PS gp gw=0) (a0:0<=a) (a1:a<34359738368) (hE:Re.errA (Re.addN PD.L ⟨a,a+1,gw,true,false,1⟩) (Re.addL PD.L ⟨a,a+1,gw,true,false,1⟩)=0) (L':List Re.Rg) (hL:Re.outL (Re.addN PD.L ⟨a,a+1,gw,true,false,1⟩) (Re.addL PD.L ⟨a,a+1,gw,true,false,1⟩)=L') (h1:L'.length<=100) (b:Nat) (hF:PS.F gp=some b) (hm:Qo.mayN s.T PD.k (costK 0 (a / 512) (a / 262144) (a / 134217728) PD.G 3)=0):Srv M root i c s (Ro 0 0 0 0 false) { s.one d { PD with F:=put PD.F a (some b),G:=bumpN (a / 512) (a / 262144) (a / 134217728) PD.G 3,L:=L' } with T:=Qo.chargeT s.T PD.k (costK 0 (a / 512) (a / 262144) (a / 134217728) PD.G 3),I:=I1 }:=by
 intro O n W h hn
 obtain ⟨A,B,ρ,m,ab,nm⟩:=h
 obtain ⟨op,k1,k2,k3,k4,k5,ad,sz,x,k6,k7,k8,k9⟩:=c
 have hop:op=7:=hop
 subst hop
 obtain ⟨RS,hRS,hs⟩:=ab.at hS
 obtain ⟨RD,hRD,hd⟩:=ab.at hD
 obtain ⟨gb,hgb⟩: ∃ gb,Sh.Gr.is ⟨(sr:Nat),gp,(d:Nat),gw,gt,a⟩=gb:=⟨_,rfl⟩
 refine Calls.mono (m.serve_change i 7 kh kh kh kh k1 k2 k3 k4 k5 ad sz x k6 k7 k8 k9 0 (fun O' V=> ∃ p' c',Mn O' (n+6) V M s.Q (Qo.chargeT s.T RD.k (costK 0 (a / 512) (a / 262144) (a / 134217728) RD.G 3)) root I1 (setA A d (some { { RD with F:=put RD.F a (some (ρ b)),G:=(bumpN (a / 512) (a / 262144) (a / 134217728) RD.G 3) } with rp:=p',rc:=c',L:=L' })) B) (fun O V V' h hs hk=>by obtain ⟨p',c',h⟩:=h;exact ⟨p',c',h.keep hs hk⟩) fun w hw=>hw.change7 i k1 k2 k3 k4 k5 ad sz x k6 k7 k8 k9 0 _ fun w2 hw2=>hw2.accept i k1 k2 k3 k4 k5 ad sz x k6 k7 k8 k9 ha I1 hI1 (sr:Nat) gp (d:Nat) a gw gt gb hg hgb _ fun w3 hw3=>Calls.mono ((hw3.lend s16 hRS d16 hRD hne gp a gw gt p0 p1 0 0 0 L' (ρ b) (by rw [lend_ab hs];exact hl) (by rw [hd.L];exact hE) (by rw [hd.L];exact hL) (by rw [hd.k,hd.G];exact hm) (fun _=>⟨a0,a1⟩) (fun _ _=>⟨by rw [hs.F,hF];rfl,by omega⟩) (fun _ _ _=>h1)).mono fun e w9 q=>((q.yes rfl).yes rfl).yes rfl) (by rintro e w' ⟨rfl,p',c',O',m',e1,e2,k⟩;exact ⟨rfl,O',⟨p',c',m'⟩,e1,e2,k⟩)) ?_
 rintro e w' ⟨rfl,hx⟩
 refine ⟨rfl,?_⟩
 rw [hd.k,hd.G] at hx
 exact Is.one m.lt ab nm d (I':=I1) (T':=Qo.chargeT s.T PD.k (costK 0 (a / 512) (a / 262144) (a / 134217728) PD.G 3)) (n':=n+400000) { PD with F:=put PD.F a (some b),G:=bumpN (a / 512) (a / 262144) (a / 134217728) PD.G 3,L:=L' } (by
  obtain ⟨O',⟨p',c',m'⟩,e1,e2,k⟩:=hx
  exact ⟨O',⟨_,m'.more (by omega),⟨hd.par,rfl,hd.st,rfl,rfl,fun p=>put_map ρ hd.F a (some (ρ b)) (some b) rfl p⟩⟩,e1,e2,k⟩) (fun p c hc=>by
  have hc:put PD.F a (some b) p=some c:=hc
  unfold put at hc
  split at hc
  . cases hc;exact nm.used sr PS gp b hS hF
  . exact nm.used d PD p c hD hc)
theorem some_ab {ρ :Nat->Nat} {R P:Pr} (h:Ab ρ R P) (p:Int):(R.F p).isSome=(P.F p).isSome:=by rw [h.F p];cases P.F p <;> rfl
theorem updB_twice (B:Nat->Nat->Int) (c:Nat) (b b':Nat->Int):updB (updB B c b) c b'=updB B c b':=by
 funext y;unfold updB;split <;> rfl
theorem Is.fresh {O:Nat->Nat} {W:World} {M:Mb} {root:Int} {s:Sa} {A:Nat->Option Pr} {B:Nat->Nat->Int} {ρ :Nat->Nat} (lt: ∀ j,O j≠0->j<W.heap.size) (ab:AbA ρ A s.A) (nm:Nm O ρ B s) {i:Nat} (hi:i<16) {R P:Pr} (hP:s.A i=some P) (hab:Ab ρ R P) {n' n2:Nat} (hn:n'<=n2) {T':Nat->Qo.Nd} (p:Int) (b:Nat->Int) {w':World}
 (h:Tx O W (fun O' V=> ∃ c,O c=0/\Mn O' n' V M s.Q T' root s.I (setA A i (some { R with F:=put R.F p (some c),G:=bumpN (p / 512) (p / 262144) (p / 134217728) R.G 3 })) (updB B c b)) w') :
 Tx O W (fun O' V=>Is O' n2 V M root { s.one i { P with F:=put P.F p (some s.nx),G:=bumpN (p / 512) (p / 262144) (p / 134217728) P.G 3 } with T:=T',B:=updB s.B s.nx b,nx:=s.nx+1 }) w':=by
 obtain ⟨O',⟨c,oc,m'⟩,e1,e2,k⟩:=h
 obtain ⟨ρ',hρ⟩: ∃ ρ':Nat->Nat,ρ'=fun x=>if x=s.nx then c else ρ x:=⟨_,rfl⟩
 have r1: ρ' s.nx=c:=by rw [hρ];exact if_pos rfl
 have r2: ∀ x,x<s.nx-> ρ' x= ρ x:=fun x hx=>by rw [hρ];exact if_neg (by omega)
 have r3: ∀ x,x<s.nx-> ρ x≠c:=fun x hx e=>by have q:=(nm.nine x hx).1;rw [e,oc] at q;omega
 have o9:O' c=9:=(m'.prs i _ hi (setA_same _ _ _)).con p c (if_pos rfl)
 have up: ∀ {R P:Pr},Ab ρ R P->(∀ q x,P.F q=some x->x<s.nx)->Ab ρ' R P:=fun {R P} h hu=>⟨h.par,h.k,h.st,h.L,h.G,fun q=>by
  rw [h.F q]
  cases e:P.F q with
  | none => rfl
  | some x => show some (ρ x) = some (ρ' x); rw [r2 x (hu q x e)]⟩
 refine ⟨O',⟨_,_,ρ',m'.more hn,?_,⟨fun x y hx hy e=> ?_,fun x hx=> ?_,fun j Q q x h1 h2=> ?_⟩⟩,e1,e2,k⟩
 . intro j
   by_cases cj:j=i
   . subst cj
     refine Or.inr ⟨_,_,setA_same _ _ _,setA_same _ _ _,⟨hab.par,hab.k,hab.st,hab.L,?_,fun q=> ?_⟩⟩
     . show bumpN (p / 512) (p / 262144) (p / 134217728) R.G 3=bumpN (p / 512) (p / 262144) (p / 134217728) P.G 3
       rw [hab.G]
     . exact put_map ρ' (up hab (fun q x e=>nm.used j P q x hP e)).F p (some c) (some s.nx) (by rw [<- r1];rfl) q
   . show (setA A i _ j=none/\setA s.A i _ j=none)\/_
     rw [setA_other _ _ _ _ cj,setA_other _ _ _ _ cj]
     rcases ab j with h | ⟨R2,P2,h1,h2,h3⟩
     . exact Or.inl h
     . exact Or.inr ⟨R2,P2,h1,by show setA s.A i _ j=_;rw [setA_other _ _ _ _ cj];exact h2,up h3 (fun q x e=>nm.used j P2 q x h2 e)⟩
 . have hx:x<s.nx+1:=hx
   have hy:y<s.nx+1:=hy
   by_cases cx:x=s.nx
   . by_cases cy:y=s.nx
     . rw [cx,cy]
     . rw [cx,r1,r2 y (by omega)] at e
       exact absurd e.symm (r3 y (by omega))
   . by_cases cy:y=s.nx
     . rw [cy,r1,r2 x (by omega)] at e
       exact absurd e (r3 x (by omega))
     . rw [r2 x (by omega),r2 y (by omega)] at e
       exact nm.inj x y (by omega) (by omega) e
 . have hx:x<s.nx+1:=hx
   by_cases cx:x=s.nx
   . rw [cx,r1];exact ⟨o9,by rw [updB_same];show b=updB s.B s.nx b s.nx;rw [updB_same]⟩
   . have q:=nm.nine x (by omega)
     rw [r2 x (by omega),updB_other _ _ _ _ (r3 x (by omega))]
     refine ⟨(e1 _ (lt _ (by rw [q.1];omega))).trans q.1,?_⟩
     show B (ρ x)=updB s.B s.nx b x
     rw [updB_other _ _ _ _ cx];exact q.2
 . show x<s.nx+1
   have h1:setA s.A i _ j=some Q:=h1
   by_cases cj:j=i
   . subst cj
     rw [setA_same] at h1
     cases h1
     have h2:put P.F p (some s.nx) q=some x:=h2
     unfold put at h2
     split at h2
     . cases h2;omega
     . have:=nm.used j P q x hP h2;omega
   . rw [setA_other _ _ _ _ cj] at h1
     have:=nm.used j Q q x h1 h2;omega
theorem srv4_out (M:Mb) (root:Int) {i:Nat} (hi:i<16) (c:Ca.Cl) (hop:c.op=4) (s:Sa) {P:Pr} (hP:s.A i=some P) (p:Int) (hp:c.ad / 4096=p) (a0:0<=c.ad) (a1:c.ad<140737488355328) (g1 g2 gk:Int) (gw gu gx:Bool) (hz:Re.findR P.L p=(⟨g1,g2,gw,gu,gx,gk⟩,false)):Srv M root i c s (Ro 0 9 c.ad (codeU false (P.F p).isSome) (raiseE P.st==0)) (s.one i { P with st:=raiseS P.st c.ad (codeU false (P.F p).isSome) }):=by
 intro O n W h hn
 obtain ⟨A,B,ρ,m,ab,nm⟩:=h
 obtain ⟨R,hR,hab⟩:=ab.at hP
 obtain ⟨op,k1,k2,k3,k4,k5,ad,sz,x,k6,k7,k8,k9⟩:=c
 have hop:op=4:=hop
 subst hop
 refine Calls.mono (m.serve4 hi hR k1 k2 k3 k4 k5 ad sz x k6 k7 k8 k9 0 0 9 ad (codeU false (R.F p).isSome) (raiseE R.st==0) n (by omega) (fun O' V=>Mn O' n V M s.Q s.T root s.I (setA A i (some { R with st:=raiseS R.st ad (codeU false (R.F p).isSome) })) B) (Mn.sta _ _ _ _ _ _ _ _) (fun O' V hm=>hm.sees hR rfl rfl) fun w hw=>hw.acc_out (oq:=4) (wq:=false) rfl hi hR k1 k2 k3 k4 k5 ad sz x k6 k7 k8 k9 p hp a0 a1 g1 g2 gk gw gu gx (by rw [hab.L];exact hz)) ?_
 rintro e w' ⟨rfl,hx⟩
 rw [hab.st,some_ab hab] at hx
 refine ⟨by rw [hab.st,some_ab hab];rfl,?_⟩
 exact Is.one m.lt ab nm i (I':=s.I) (T':=s.T) (n':=n+400000) { P with st:=raiseS P.st ad (codeU false (P.F p).isSome) } (by
  obtain ⟨O',m',e1,e2,k⟩:=hx
  exact ⟨O',⟨_,m'.more (by omega),⟨hab.par,hab.k,rfl,hab.L,hab.G,hab.F⟩⟩,e1,e2,k⟩) (fun p c hc=>nm.used i P p c hP hc)
theorem srv4_may (M:Mb) (root:Int) {i:Nat} (hi:i<16) (c:Ca.Cl) (hop:c.op=4) (s:Sa) {P:Pr} (hP:s.A i=some P) (p:Int) (hp:c.ad / 4096=p) (a0:0<=c.ad) (a1:c.ad<140737488355328) (g1 g2 gk:Int) (gw gu gx:Bool) (hz:Re.findR P.L p=(⟨g1,g2,gw,gu,gx,gk⟩,true)) (hy:mayV gw gu gx false true false=false):Srv M root i c s (Ro 0 9 c.ad (codeU false (P.F p).isSome) (raiseE P.st==0)) (s.one i { P with st:=raiseS P.st c.ad (codeU false (P.F p).isSome) }):=by
 intro O n W h hn
 obtain ⟨A,B,ρ,m,ab,nm⟩:=h
 obtain ⟨R,hR,hab⟩:=ab.at hP
 obtain ⟨op,k1,k2,k3,k4,k5,ad,sz,x,k6,k7,k8,k9⟩:=c
 have hop:op=4:=hop
 subst hop
 refine Calls.mono (m.serve4 hi hR k1 k2 k3 k4 k5 ad sz x k6 k7 k8 k9 0 0 9 ad (codeU false (R.F p).isSome) (raiseE R.st==0) n (by omega) (fun O' V=>Mn O' n V M s.Q s.T root s.I (setA A i (some { R with st:=raiseS R.st ad (codeU false (R.F p).isSome) })) B) (Mn.sta _ _ _ _ _ _ _ _) (fun O' V hm=>hm.sees hR rfl rfl) fun w hw=>hw.acc_may (oq:=4) (wq:=false) rfl hi hR k1 k2 k3 k4 k5 ad sz x k6 k7 k8 k9 p hp a0 a1 g1 g2 gk gw gu gx (by rw [hab.L];exact hz) hy) ?_
 rintro e w' ⟨rfl,hx⟩
 rw [hab.st,some_ab hab] at hx
 refine ⟨by rw [hab.st,some_ab hab];rfl,?_⟩
 exact Is.one m.lt ab nm i (I':=s.I) (T':=s.T) (n':=n+400000) { P with st:=raiseS P.st ad (codeU false (P.F p).isSome) } (by
  obtain ⟨O',m',e1,e2,k⟩:=hx
  exact ⟨O',⟨_,m'.more (by omega),⟨hab.par,hab.k,rfl,hab.L,hab.G,hab.F⟩⟩,e1,e2,k⟩) (fun p c hc=>nm.used i P p c hP hc)
theorem srv4_full (M:Mb) (root:Int) {i:Nat} (hi:i<16) (c:Ca.Cl) (hop:c.op=4) (s:Sa) {P:Pr} (hP:s.A i=some P) (p:Int) (hp:c.ad / 4096=p) (a0:0<=c.ad) (a1:c.ad<140737488355328) (g1 g2 gk:Int) (gw gu gx:Bool) (hz:Re.findR P.L p=(⟨g1,g2,gw,gu,gx,gk⟩,true)) (hy:mayV gw gu gx false true false=true) (hF:P.F p=none) (E:Int) (hm:Qo.mayN s.T P.k (costK 1 (p / 512) (p / 262144) (p / 134217728) P.G 3)=E) (hE:E≠0):Srv M root i c s (Ro 0 E 0 0 false) s:=by
 intro O n W h hn
 obtain ⟨A,B,ρ,m,ab,nm⟩:=h
 obtain ⟨R,hR,hab⟩:=ab.at hP
 obtain ⟨op,k1,k2,k3,k4,k5,ad,sz,x,k6,k7,k8,k9⟩:=c
 have hop:op=4:=hop
 subst hop
 refine Calls.mono (m.serve4 hi hR k1 k2 k3 k4 k5 ad sz x k6 k7 k8 k9 0 0 E 0 0 false (n+6) (by omega) (fun O' V=>Mn O' (n+6) V M s.Q s.T root s.I A B) (Mn.sta _ _ _ _ _ _ _ _) (fun O' V hm=>⟨hm.mod,hm.prm⟩) fun w hw=>hw.acc_full (oq:=4) (wq:=false) rfl hi hR k1 k2 k3 k4 k5 ad sz x k6 k7 k8 k9 p hp a0 a1 g1 g2 gk gw gu gx (by rw [hab.L];exact hz) hy (by rw [hab.F,hF];rfl) E (by rw [hab.k,hab.G];exact hm) hE (by omega)) ?_
 rintro e w' ⟨rfl,hx⟩
 exact ⟨rfl,Is.same m.lt ab nm (by omega) hx⟩
theorem srv4_new (M:Mb) (root:Int) {i:Nat} (hi:i<16) (c:Ca.Cl) (hop:c.op=4) (s:Sa) {P:Pr} (hP:s.A i=some P) (p:Int) (hp:c.ad / 4096=p) (a0:0<=c.ad) (a1:c.ad<140737488355328) (g1 g2 gk:Int) (gw gu gx:Bool) (hz:Re.findR P.L p=(⟨g1,g2,gw,gu,gx,gk⟩,true)) (hy:mayV gw gu gx false true false=true) (s0:0<=c.sz) (s8:c.sz<=8) (am:c.ad % 4096+c.sz<=4096) (hF:P.F p=none) (hm:Qo.mayN s.T P.k (costK 1 (p / 512) (p / 262144) (p / 134217728) P.G 3)=0):Srv M root i c s (Ro (le (fun _=>(0:Int)) (c.ad % 4096).toNat c.sz.toNat) 0 0 0 false) { s.one i { P with F:=put P.F p (some s.nx),G:=bumpN (p / 512) (p / 262144) (p / 134217728) P.G 3 } with T:=Qo.chargeT s.T P.k (costK 1 (p / 512) (p / 262144) (p / 134217728) P.G 3),B:=updB s.B s.nx (fun _=>0),nx:=s.nx+1 }:=by
 intro O n W h hn
 obtain ⟨A,B,ρ,m,ab,nm⟩:=h
 obtain ⟨R,hR,hab⟩:=ab.at hP
 obtain ⟨op,k1,k2,k3,k4,k5,ad,sz,x,k6,k7,k8,k9⟩:=c
 have hop:op=4:=hop
 subst hop
 refine Calls.mono (m.serve4 hi hR k1 k2 k3 k4 k5 ad sz x k6 k7 k8 k9 0 (le (fun _=>(0:Int)) (ad % 4096).toNat sz.toNat) 0 0 0 false (n+6) (by omega) (fun O' V=> ∃ b,O b=0/\Mn O' (n+6) V M s.Q (Qo.chargeT s.T R.k (costK 1 (p / 512) (p / 262144) (p / 134217728) R.G 3)) root s.I (setA A i (some { R with F:=put R.F p (some b),G:=(bumpN (p / 512) (p / 262144) (p / 134217728) R.G 3) })) (updB B b (fun _=>0))) (fun O V V' h hs hk=>by obtain ⟨b,h0,h⟩:=h;exact ⟨b,h0,h.keep hs hk⟩) (fun O' V hm=>by obtain ⟨b,_,h⟩:=hm;exact h.sees hR rfl rfl) fun w hw=>Calls.mono (hw.load_new hi hR k1 k2 k3 k4 k5 ad sz x k6 k7 k8 k9 p hp a0 a1 g1 g2 gk gw gu gx (by rw [hab.L];exact hz) hy s0 s8 am (by rw [hab.F,hF];rfl) (by rw [hab.k,hab.G];exact hm) (by omega)) (by rintro e w' ⟨b,hb,rfl,O',m',e1,e2,k⟩;exact ⟨rfl,O',⟨b,bca fun hh=>by (have:=hw.lt b hh;omega),m'⟩,e1,e2,k⟩)) ?_
 rintro e w' ⟨rfl,hx⟩
 refine ⟨rfl,?_⟩
 have q:=Is.fresh m.lt ab nm hi hP hab (n2:=n+400000) (by omega) p (fun _=>0) hx
 rw [hab.k,hab.G] at q
 exact q
theorem srv4_there (M:Mb) (root:Int) {i:Nat} (hi:i<16) (c:Ca.Cl) (hop:c.op=4) (s:Sa) {P:Pr} (hP:s.A i=some P) (p:Int) (hp:c.ad / 4096=p) (a0:0<=c.ad) (a1:c.ad<140737488355328) (g1 g2 gk:Int) (gw gu gx:Bool) (hz:Re.findR P.L p=(⟨g1,g2,gw,gu,gx,gk⟩,true)) (hy:mayV gw gu gx false true false=true) (s0:0<=c.sz) (s8:c.sz<=8) (am:c.ad % 4096+c.sz<=4096) (b:Nat) (hF:P.F p=some b):Srv M root i c s (Ro (le (s.B b) (c.ad % 4096).toNat c.sz.toNat) 0 0 0 false) s:=by
 intro O n W h hn
 obtain ⟨A,B,ρ,m,ab,nm⟩:=h
 obtain ⟨R,hR,hab⟩:=ab.at hP
 obtain ⟨op,k1,k2,k3,k4,k5,ad,sz,x,k6,k7,k8,k9⟩:=c
 have hop:op=4:=hop
 subst hop
 refine Calls.mono (m.serve4 hi hR k1 k2 k3 k4 k5 ad sz x k6 k7 k8 k9 0 (le (s.B b) (ad % 4096).toNat sz.toNat) 0 0 0 false n (by omega) (fun O' V=>Mn O' n V M s.Q s.T root s.I A B) (Mn.sta _ _ _ _ _ _ _ _) (fun O' V hm=>⟨hm.mod,hm.prm⟩) fun w hw=>Calls.mono (hw.load_there hi hR k1 k2 k3 k4 k5 ad sz x k6 k7 k8 k9 p hp a0 a1 g1 g2 gk gw gu gx (by rw [hab.L];exact hz) hy s0 s8 am (ρ b) (by rw [hab.F,hF];rfl)) (by rintro e w' ⟨rfl,hb⟩;exact ⟨by rw [(nm.nine b (nm.used i P p b hP hF)).2],hw.tx_below hb⟩)) ?_
 rintro e w' ⟨rfl,hx⟩
 exact ⟨rfl,Is.same m.lt ab nm (by omega) hx⟩
theorem srv5_out (M:Mb) (root:Int) {i:Nat} (hi:i<16) (c:Ca.Cl) (hop:c.op=5) (s:Sa) {P:Pr} (hP:s.A i=some P) (p:Int) (hp:c.ad / 4096=p) (a0:0<=c.ad) (a1:c.ad<140737488355328) (g1 g2 gk:Int) (gw gu gx:Bool) (hz:Re.findR P.L p=(⟨g1,g2,gw,gu,gx,gk⟩,false)):Srv M root i c s (Ro 0 9 c.ad (codeU true (P.F p).isSome) (raiseE P.st==0)) (s.one i { P with st:=raiseS P.st c.ad (codeU true (P.F p).isSome) }):=by
 intro O n W h hn
 obtain ⟨A,B,ρ,m,ab,nm⟩:=h
 obtain ⟨R,hR,hab⟩:=ab.at hP
 obtain ⟨op,k1,k2,k3,k4,k5,ad,sz,x,k6,k7,k8,k9⟩:=c
 have hop:op=5:=hop
 subst hop
 refine Calls.mono (m.serve5 hi hR k1 k2 k3 k4 k5 ad sz x k6 k7 k8 k9 0 0 9 ad (codeU true (R.F p).isSome) (raiseE R.st==0) n (by omega) (fun O' V=>Mn O' n V M s.Q s.T root s.I (setA A i (some { R with st:=raiseS R.st ad (codeU true (R.F p).isSome) })) B) (Mn.sta _ _ _ _ _ _ _ _) (fun O' V hm=>hm.sees hR rfl rfl) fun w hw=>hw.acc_out (oq:=5) (wq:=true) rfl hi hR k1 k2 k3 k4 k5 ad sz x k6 k7 k8 k9 p hp a0 a1 g1 g2 gk gw gu gx (by rw [hab.L];exact hz)) ?_
 rintro e w' ⟨rfl,hx⟩
 rw [hab.st,some_ab hab] at hx
 refine ⟨by rw [hab.st,some_ab hab];rfl,?_⟩
 exact Is.one m.lt ab nm i (I':=s.I) (T':=s.T) (n':=n+400000) { P with st:=raiseS P.st ad (codeU true (P.F p).isSome) } (by
  obtain ⟨O',m',e1,e2,k⟩:=hx
  exact ⟨O',⟨_,m'.more (by omega),⟨hab.par,hab.k,rfl,hab.L,hab.G,hab.F⟩⟩,e1,e2,k⟩) (fun p c hc=>nm.used i P p c hP hc)
theorem srv5_may (M:Mb) (root:Int) {i:Nat} (hi:i<16) (c:Ca.Cl) (hop:c.op=5) (s:Sa) {P:Pr} (hP:s.A i=some P) (p:Int) (hp:c.ad / 4096=p) (a0:0<=c.ad) (a1:c.ad<140737488355328) (g1 g2 gk:Int) (gw gu gx:Bool) (hz:Re.findR P.L p=(⟨g1,g2,gw,gu,gx,gk⟩,true)) (hy:mayV gw gu gx true true false=false):Srv M root i c s (Ro 0 9 c.ad (codeU true (P.F p).isSome) (raiseE P.st==0)) (s.one i { P with st:=raiseS P.st c.ad (codeU true (P.F p).isSome) }):=by
 intro O n W h hn
 obtain ⟨A,B,ρ,m,ab,nm⟩:=h
 obtain ⟨R,hR,hab⟩:=ab.at hP
 obtain ⟨op,k1,k2,k3,k4,k5,ad,sz,x,k6,k7,k8,k9⟩:=c
 have hop:op=5:=hop
 subst hop
 refine Calls.mono (m.serve5 hi hR k1 k2 k3 k4 k5 ad sz x k6 k7 k8 k9 0 0 9 ad (codeU true (R.F p).isSome) (raiseE R.st==0) n (by omega) (fun O' V=>Mn O' n V M s.Q s.T root s.I (setA A i (some { R with st:=raiseS R.st ad (codeU true (R.F p).isSome) })) B) (Mn.sta _ _ _ _ _ _ _ _) (fun O' V hm=>hm.sees hR rfl rfl) fun w hw=>hw.acc_may (oq:=5) (wq:=true) rfl hi hR k1 k2 k3 k4 k5 ad sz x k6 k7 k8 k9 p hp a0 a1 g1 g2 gk gw gu gx (by rw [hab.L];exact hz) hy) ?_
 rintro e w' ⟨rfl,hx⟩
 rw [hab.st,some_ab hab] at hx
 refine ⟨by rw [hab.st,some_ab hab];rfl,?_⟩
 exact Is.one m.lt ab nm i (I':=s.I) (T':=s.T) (n':=n+400000) { P with st:=raiseS P.st ad (codeU true (P.F p).isSome) } (by
  obtain ⟨O',m',e1,e2,k⟩:=hx
  exact ⟨O',⟨_,m'.more (by omega),⟨hab.par,hab.k,rfl,hab.L,hab.G,hab.F⟩⟩,e1,e2,k⟩) (fun p c hc=>nm.used i P p c hP hc)
theorem srv5_full (M:Mb) (root:Int) {i:Nat} (hi:i<16) (c:Ca.Cl) (hop:c.op=5) (s:Sa) {P:Pr} (hP:s.A i=some P) (p:Int) (hp:c.ad / 4096=p) (a0:0<=c.ad) (a1:c.ad<140737488355328) (g1 g2 gk:Int) (gw gu gx:Bool) (hz:Re.findR P.L p=(⟨g1,g2,gw,gu,gx,gk⟩,true)) (hy:mayV gw gu gx true true false=true) (hF:P.F p=none) (E:Int) (hm:Qo.mayN s.T P.k (costK 1 (p / 512) (p / 262144) (p / 134217728) P.G 3)=E) (hE:E≠0):Srv M root i c s (Ro 0 E 0 0 false) s:=by
 intro O n W h hn
 obtain ⟨A,B,ρ,m,ab,nm⟩:=h
 obtain ⟨R,hR,hab⟩:=ab.at hP
 obtain ⟨op,k1,k2,k3,k4,k5,ad,sz,x,k6,k7,k8,k9⟩:=c
 have hop:op=5:=hop
 subst hop
 refine Calls.mono (m.serve5 hi hR k1 k2 k3 k4 k5 ad sz x k6 k7 k8 k9 0 0 E 0 0 false (n+6) (by omega) (fun O' V=>Mn O' (n+6) V M s.Q s.T root s.I A B) (Mn.sta _ _ _ _ _ _ _ _) (fun O' V hm=>⟨hm.mod,hm.prm⟩) fun w hw=>hw.acc_full (oq:=5) (wq:=true) rfl hi hR k1 k2 k3 k4 k5 ad sz x k6 k7 k8 k9 p hp a0 a1 g1 g2 gk gw gu gx (by rw [hab.L];exact hz) hy (by rw [hab.F,hF];rfl) E (by rw [hab.k,hab.G];exact hm) hE (by omega)) ?_
 rintro e w' ⟨rfl,hx⟩
 exact ⟨rfl,Is.same m.lt ab nm (by omega) hx⟩
theorem srv5_new (M:Mb) (root:Int) {i:Nat} (hi:i<16) (c:Ca.Cl) (hop:c.op=5) (s:Sa) {P:Pr} (hP:s.A i=some P) (p:Int) (hp:c.ad / 4096=p) (a0:0<=c.ad) (a1:c.ad<140737488355328) (g1 g2 gk:Int) (gw gu gx:Bool) (hz:Re.findR P.L p=(⟨g1,g2,gw,gu,gx,gk⟩,true)) (hy:mayV gw gu gx true true false=true) (s0:0<=c.sz) (s8:c.sz<=8) (am:c.ad % 4096+c.sz<=4096) (x0:0<=c.x) (x1:c.x<18446744073709551616) (hF:P.F p=none) (hm:Qo.mayN s.T P.k (costK 1 (p / 512) (p / 262144) (p / 134217728) P.G 3)=0):Srv M root i c s (Ro 0 0 0 0 false) { s.one i { P with F:=put P.F p (some s.nx),G:=bumpN (p / 512) (p / 262144) (p / 134217728) P.G 3 } with T:=Qo.chargeT s.T P.k (costK 1 (p / 512) (p / 262144) (p / 134217728) P.G 3),B:=updB s.B s.nx (cset (fun _=>0) (c.ad % 4096).toNat c.sz.toNat c.x),nx:=s.nx+1 }:=by
 intro O n W h hn
 obtain ⟨A,B,ρ,m,ab,nm⟩:=h
 obtain ⟨R,hR,hab⟩:=ab.at hP
 obtain ⟨op,k1,k2,k3,k4,k5,ad,sz,x,k6,k7,k8,k9⟩:=c
 have hop:op=5:=hop
 subst hop
 refine Calls.mono (m.serve5 hi hR k1 k2 k3 k4 k5 ad sz x k6 k7 k8 k9 0 0 0 0 0 false (n+6) (by omega) (fun O' V=> ∃ b,O b=0/\Mn O' (n+6) V M s.Q (Qo.chargeT s.T R.k (costK 1 (p / 512) (p / 262144) (p / 134217728) R.G 3)) root s.I (setA A i (some { R with F:=put R.F p (some b),G:=(bumpN (p / 512) (p / 262144) (p / 134217728) R.G 3) })) (updB B b (cset (fun _=>0) (ad % 4096).toNat sz.toNat x))) (fun O V V' h hs hk=>by obtain ⟨b,h0,h⟩:=h;exact ⟨b,h0,h.keep hs hk⟩) (fun O' V hm=>by obtain ⟨b,_,h⟩:=hm;exact h.sees hR rfl rfl) fun w hw=>Calls.mono (hw.store_new hi hR k1 k2 k3 k4 k5 ad sz x k6 k7 k8 k9 p hp a0 a1 g1 g2 gk gw gu gx (by rw [hab.L];exact hz) hy s0 s8 am x0 x1 (by rw [hab.F,hF];rfl) (by rw [hab.k,hab.G];exact hm) (by omega)) (by rintro e w' ⟨b,hb,rfl,O',m',e1,e2,k⟩;exact ⟨rfl,O',⟨b,bca fun hh=>by (have:=hw.lt b hh;omega),(by rw [updB_twice] at m';exact m')⟩,e1,e2,k⟩)) ?_
 rintro e w' ⟨rfl,hx⟩
 refine ⟨rfl,?_⟩
 have q:=Is.fresh m.lt ab nm hi hP hab (n2:=n+400000) (by omega) p (cset (fun _=>0) (ad % 4096).toNat sz.toNat x) hx
 rw [hab.k,hab.G] at q
 exact q
theorem srv5_there (M:Mb) (root:Int) {i:Nat} (hi:i<16) (c:Ca.Cl) (hop:c.op=5) (s:Sa) {P:Pr} (hP:s.A i=some P) (p:Int) (hp:c.ad / 4096=p) (a0:0<=c.ad) (a1:c.ad<140737488355328) (g1 g2 gk:Int) (gw gu gx:Bool) (hz:Re.findR P.L p=(⟨g1,g2,gw,gu,gx,gk⟩,true)) (hy:mayV gw gu gx true true false=true) (s0:0<=c.sz) (s8:c.sz<=8) (am:c.ad % 4096+c.sz<=4096) (x0:0<=c.x) (x1:c.x<18446744073709551616) (b:Nat) (hF:P.F p=some b):Srv M root i c s (Ro 0 0 0 0 false) { s with B:=updB s.B b (cset (s.B b) (c.ad % 4096).toNat c.sz.toNat c.x) }:=by
 intro O n W h hn
 obtain ⟨A,B,ρ,m,ab,nm⟩:=h
 obtain ⟨R,hR,hab⟩:=ab.at hP
 obtain ⟨op,k1,k2,k3,k4,k5,ad,sz,x,k6,k7,k8,k9⟩:=c
 have hop:op=5:=hop
 subst hop
 refine Calls.mono (m.serve5 hi hR k1 k2 k3 k4 k5 ad sz x k6 k7 k8 k9 0 0 0 0 0 false n (by omega) (fun O' V=>Mn O' n V M s.Q s.T root s.I A (updB B (ρ b) (cset (s.B b) (ad % 4096).toNat sz.toNat x))) (Mn.sta _ _ _ _ _ _ _ _) (fun O' V hm=>⟨hm.mod,hm.prm⟩) fun w hw=>Calls.mono (hw.store_there hi hR k1 k2 k3 k4 k5 ad sz x k6 k7 k8 k9 p hp a0 a1 g1 g2 gk gw gu gx (by rw [hab.L];exact hz) hy s0 s8 am x0 x1 (ρ b) (by rw [hab.F,hF];rfl)) (by rintro e w' ⟨rfl,hx⟩;rw [(nm.nine b (nm.used i P p b hP hF)).2] at hx;exact ⟨rfl,hx⟩)) ?_
 rintro e w' ⟨rfl,O',m',e1,e2,k⟩
 have bl:=nm.used i P p b hP hF
 refine ⟨rfl,O',⟨A,_,ρ,m'.more (by omega),ab,nm.inj,fun x hx=> ?_,nm.used⟩,e1,e2,k⟩
 have q:=nm.nine x hx
 refine ⟨(e1 _ (m.lt _ (by rw [q.1];omega))).trans q.1,?_⟩
 show updB B (ρ b) _ (ρ x)=updB s.B b _ x
 by_cases cx:x=b
 . rw [cx,updB_same,updB_same]
 . rw [updB_other _ _ _ _ (fun e=>cx (nm.inj x b hx bl e)),updB_other _ _ _ _ cx];exact q.2
end
end Go.Proofs.YtokpmclmdobgeaaGreat.Fl
