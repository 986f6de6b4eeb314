import Derived.Test.YtokpmclmdobgeaaGreatJVe
set_option linter.unusedSimpArgs false
set_option linter.unusedVariables false
set_option maxRecDepth 8000
open Go.ChangeShapes Go.WideShapes Go.ChangeAt Go.RowKit Go.Maps
namespace Go.Proofs.YtokpmclmdobgeaaGreat.Fl
theorem errA_zero {E:Int} {M:List Re.Rg} (h:Re.errA E M=0):E=0/\M.length<=64/\Re.outL E M=M:=by
 have o:Re.outL E M=M:=if_pos h
 unfold Re.errA at h
 split at h
 . rename_i e
   split at h
   . rename_i l;exact ⟨e,l,o⟩
   . omega
 . rename_i e;exact absurd h e
theorem cnt_pos (f t x:Int) (h1:f<=x) (h2:x<t): ∀ L:List Re.Rg,Re.atR L x≠none->0<Re.cntR f t L
 | [], h => absurd rfl h
 | r :: l, h => by
  have nn:=Re.cnt_nn f t l
  have ln:=Re.len_nn r f t
  show 0<r.len f t+Re.cntR f t l
  by_cases c:r.fr<=x/\x<r.tt
  . have:0<r.len f t:=by
     unfold Re.Rg.len
     rw [if_pos (by omega)];omega
    omega
  . have h:(if r.fr<=x/\x<r.tt then some r.att else Re.atR l x)≠none:=h
    rw [if_neg c] at h
    have:=cnt_pos f t x h1 h2 l h
    omega
theorem add_facts {L:List Re.Rg} {r:Re.Rg} (h:RL L) (hE:Re.errA (Re.addN L r) (Re.addL L r)=0):Re.outL (Re.addN L r) (Re.addL L r)=Re.addL L r/\RL (Re.addL L r)/\(Re.addL L r).length<=64/\(0<=r.fr/\r.fr<r.tt/\r.tt<=34359738368)/\(∀ x,Re.atR (Re.addL L r) x=if r.fr<=x/\x<r.tt then some r.att else Re.atR L x)/\(∀ x,r.fr<=x->x<r.tt->Re.atR L x=none):=by
 obtain ⟨e,l,o⟩:=errA_zero hE
 have ck:Re.checkN L r.fr r.tt=0/\ ¬ 0<Re.cntR r.fr r.tt L:=by
  unfold Re.addN at e
  split at e
  . rename_i c
    split at e
    . omega
    . rename_i d;exact ⟨c,d⟩
  . rename_i c;exact absurd e c
 obtain ⟨r1,r2,r3,_⟩:=Re.right_is (Re.check_zero ck.1).1
 obtain ⟨a1,a2,a3⟩:=Re.add_can h.can r r1 r2 ck.2
 refine ⟨o,⟨a1,?_⟩,l,⟨r1,r2,r3⟩,a3,fun x h1 h2=> ?_⟩
 . have:=h.top;omega
 . exact bca fun q=>ck.2 (cnt_pos r.fr r.tt x h1 h2 L q)
theorem cut_facts {L:List Re.Rg} {f t:Int} (h:RL L) (hE:Re.errA (Re.checkN L f t) (Re.chg (fun _=>Re.Rg.zero) f t L)=0):Re.outL (Re.checkN L f t) (Re.chg (fun _=>Re.Rg.zero) f t L)=Re.chg (fun _=>Re.Rg.zero) f t L/\RL (Re.chg (fun _=>Re.Rg.zero) f t L)/\(Re.chg (fun _=>Re.Rg.zero) f t L).length<=64/\(0<=f/\f<t/\t<=34359738368/\t-f<=65536)/\(∀ x,Re.atR (Re.chg (fun _=>Re.Rg.zero) f t L) x=if f<=x/\x<t then none else Re.atR L x):=by
 obtain ⟨e,l,o⟩:=errA_zero hE
 have r:=Re.right_is (Re.check_zero e).1
 obtain ⟨a1,a2,a3⟩:=Re.chg_can (by omega) (Re.sem_cut f t) h.can
 refine ⟨o,⟨a1,Int.le_trans a2 h.top⟩,l,r,fun x=> ?_⟩
 rw [a3 x]
 split
 . cases Re.atR L x <;> rfl
 . rfl
theorem prot_facts {L:List Re.Rg} {f t:Int} {a b c:Bool} (h:RL L) (hE:Re.errA (Re.protN L f t) (Re.chg (fun r=>r.may a b c) f t L)=0):Re.outL (Re.protN L f t) (Re.chg (fun r=>r.may a b c) f t L)=Re.chg (fun r=>r.may a b c) f t L/\RL (Re.chg (fun r=>r.may a b c) f t L)/\(Re.chg (fun r=>r.may a b c) f t L).length<=64/\(0<=f/\f<t/\t<=34359738368/\t-f<=65536)/\(∀ x,Re.atR (Re.chg (fun r=>r.may a b c) f t L) x=if f<=x/\x<t then (Re.atR L x).bind (fun v=>some (a,b,c,v.2.2.2)) else Re.atR L x):=by
 obtain ⟨e,l,o⟩:=errA_zero hE
 have ck:Re.checkN L f t=0:=by
  unfold Re.protN at e
  split at e
  . rename_i c;exact c
  . exact e
 have r:=Re.right_is (Re.check_zero ck).1
 obtain ⟨a1,a2,a3⟩:=Re.chg_can (by omega) (Re.sem_prot a b c f t) h.can
 exact ⟨o,⟨a1,Int.le_trans a2 h.top⟩,l,r,a3⟩
section
variable {rk:Nat->Nat} {s:Sa}
theorem Inv.map (h:Inv rk s) {i:Nat} {P:Pr} (hP:s.A i=some P) (r:Re.Rg) (hk:r.kd≠1) (h30:(tkL s.I 256).length<=30) (hE:Re.errA (Re.addN P.L r) (Re.addL P.L r)=0):Inv rk (s.one i { P with L:=Re.outL (Re.addN P.L r) (Re.addL P.L r) }):=by
 have pk:=h.inw.pok i P hP
 obtain ⟨f1,f2,f3,f4,f5,f6⟩:=add_facts pk.rl hE
 rw [f1]
 have at': ∀ p,Re.atR P.L p≠none->Re.atR (Re.addL P.L r) p=Re.atR P.L p:=fun p hp=>by
  rw [f5 p,if_neg (fun c=>hp (f6 p c.1 c.2))]
 exact h.one hP { P with L:=Re.addL P.L r } rfl ⟨f2,pk.ways,fun p hp=>by rw [show Re.atR (Re.addL P.L r) p=Re.atR P.L p from at' p (pk.page p hp)];exact pk.page p hp,pk.reg⟩ (Or.inr ⟨f3,h30⟩) (fun p v a b c=>⟨a,v,(at' p (by rw [b];simp)).trans b,c⟩) s.T (h.inw.acc.list hP _ rfl rfl rfl (fun p hp=>by unfold borP;rw [show Re.atR (Re.addL P.L r) p=Re.atR P.L p from at' p (pk.page p hp)]) (fun p hp=>by
  obtain ⟨v,v1,v2⟩:=bor_ex hp
  have v1:Re.atR (Re.addL P.L r) p=some v:=v1
  rw [f5 p] at v1
  by_cases c:r.fr<=p/\p<r.tt
  . rw [if_pos c] at v1
    exact (hk (by rw [<- v2,<- sia v1];rfl)).elim
  . rw [if_neg c] at v1
    exact (h.inw.acc.pa i P hP).bor p (by rw [bor_some v1,v2];rfl)))
theorem Inv.protect (h:Inv rk s) {i:Nat} {P:Pr} (hP:s.A i=some P) (f t:Int) (a b c:Bool) (h30:(tkL s.I 256).length<=30) (hE:Re.errA (Re.protN P.L f t) (Re.chg (fun r=>r.may a b c) f t P.L)=0):Inv rk (s.one i { P with L:=Re.outL (Re.protN P.L f t) (Re.chg (fun r=>r.may a b c) f t P.L) }):=by
 have pk:=h.inw.pok i P hP
 obtain ⟨f1,f2,f3,f4,f5⟩:=prot_facts pk.rl hE
 rw [f1]
 have at': ∀ p v,Re.atR P.L p=some v-> ∃ v':Re.Att,Re.atR (Re.chg (fun r=>r.may a b c) f t P.L) p=some v'/\v'.2.2.2=v.2.2.2:=fun p v hp=>by
  rw [f5 p,hp]
  split
  . exact ⟨_,rfl,rfl⟩
  . exact ⟨_,rfl,rfl⟩
 have bs: ∀ p,borP (Re.chg (fun r=>r.may a b c) f t P.L) p=borP P.L p:=fun p=>by
  unfold borP
  rw [f5 p]
  by_cases e:f<=p/\p<t
  . rw [if_pos e];cases Re.atR P.L p <;> rfl
  . rw [if_neg e]
 exact h.one hP { P with L:=Re.chg (fun r=>r.may a b c) f t P.L } rfl ⟨f2,pk.ways,fun p hp=>by
  obtain ⟨v,hv⟩:=Option.ne_none_iff_exists'.1 (pk.page p hp)
  obtain ⟨v',q,_⟩:=at' p v hv
  show Re.atR (Re.chg (fun r=>r.may a b c) f t P.L) p≠none
  rw [q];simp,pk.reg⟩ (Or.inr ⟨f3,h30⟩) (fun p v x y z=>by
  obtain ⟨v',q1,q2⟩:=at' p v y
  exact ⟨x,v',q1,q2.trans z⟩) s.T (h.inw.acc.list hP _ rfl rfl rfl (fun p _=>bs p) (fun p hp=>(h.inw.acc.pa i P hP).bor p (by rw [<- bs p];exact hp)))
theorem Inv.revoke (h:Inv rk s) (id o:Int) (ha:Sh.revE s.I id o=0):GiveOk { s with I:=Sh.revT s.I id o } (Sh.revG s.I id o)/\Inv rk (giveS { s with I:=Sh.revT s.I id o } (Sh.revG s.I id o)):=by
 have c:(Sh.getG s.I id).is=true/\(Sh.getG s.I id).fr=o:=bca fun q=>by
  unfold Sh.revE at ha
  rw [if_pos (by
   by_cases a:(Sh.getG s.I id).is=false
   . exact Or.inl a
   . exact Or.inr (fun e=>q ⟨by simpa using a,e⟩))] at ha
  omega
 have ix:0<=id/\id<256:=bca fun q=>by
  have:=c.1
  unfold Sh.getG at this
  rw [if_neg q] at this
  cases this
 obtain ⟨k,rfl⟩: ∃ k:Nat,id=k:=⟨id.toNat,by omega⟩
 have gk:Sh.getG s.I (k:Nat)=s.I k:=if_pos ix
 have eG:Sh.revG s.I (k:Nat) o=s.I k:=(if_pos ha).trans gk
 have eT:Sh.revT s.I (k:Nat) o=Sh.putT s.I k Sh.Gr.zero:=if_pos ha
 rw [eG,eT]
 rw [gk] at c
 have tz:tkOf (Sh.Gr.zero)=[]:=if_neg kh
 have pm:=tkL_put s.I k (Sh.Gr.zero) 256 (by omega)
 rw [tz,List.append_nil] at pm
 have hi:Inw { s with I:=Sh.putT s.I k (Sh.Gr.zero) }:=⟨h.inw.good,h.inw.who,h.inw.top,h.inw.zero,h.inw.pok,fun j hj hs=>by
  have hs:(Sh.putT s.I k (Sh.Gr.zero) j).is=true:=hs
  show Gok s.A (Sh.putT s.I k (Sh.Gr.zero) j)
  by_cases e:j=k
  . rw [e,Sh.put_same] at hs
    rw [e,Sh.put_same]
    cases hs
  . rw [Sh.put_other _ _ _ _ e] at hs |-;exact h.inw.gok j hj hs,h.inw.par,h.inw.acc⟩
 generalize Sh.putT s.I k (Sh.Gr.zero)=I1 at pm hi |-
 have t2:=h.tok.perm pm.symm
 cases ht:(s.I k).tk with
 | false =>
  have e:tkOf (s.I k)=[]:=if_neg (by rw [ht];simp)
  rw [e,List.append_nil] at t2
  refine ⟨fun q=>absurd q (by rw [ht];simp),?_⟩
  rw [give_no _ ht]
  generalize hz:tkL I1 256=Z at t2
  exact ⟨hi,h.par,(show TOk s.A (tkL I1 256) by rw [hz];exact t2)⟩
 | true =>
  have e:tkOf (s.I k)=[s.I k]:=if_pos ⟨c.1,ht⟩
  rw [e] at t2
  have t3:TOk s.A (s.I k::tkL I1 256):=by
   generalize tkL I1 256=Z at t2 |-
   exact t2.perm (List.perm_append_comm (l₁ :=Z) (l₂ :=[s.I k]))
  obtain ⟨b1,b2,b3,b4,b5,b6⟩:=give_step hi t3
  refine ⟨b1,b2,h.par.of (give_sub { s with I:=I1 } (s.I k)).1 b4,?_⟩
  have b5:(giveS { s with I:=I1 } (s.I k)).I=I1:=b5
  rw [b5];exact b3
theorem Inv.leave (h:Inv rk s) (id o:Int) (ha:Sh.leaE s.I id o=0):GiveOk { s with I:=Sh.leaT s.I id o } (Sh.leaG s.I id o)/\Inv rk (giveS { s with I:=Sh.leaT s.I id o } (Sh.leaG s.I id o)):=by
 have c:(Sh.getG s.I id).is=true/\(Sh.getG s.I id).dst=o/\(Sh.getG s.I id).tk=true:=bca fun q=>by
  unfold Sh.leaE at ha
  rw [if_pos (by
   by_cases a:(Sh.getG s.I id).is=false
   . exact Or.inl a
   . refine Or.inr (bca fun z=>q ⟨by simpa using a,bca fun y=>z (Or.inl y),?_⟩)
     cases t:(Sh.getG s.I id).tk with
     | true => rfl
     | false => exact absurd (Or.inr t) z)] at ha
  omega
 have ix:0<=id/\id<256:=bca fun q=>by
  have:=c.1
  unfold Sh.getG at this
  rw [if_neg q] at this
  cases this
 obtain ⟨k,rfl⟩: ∃ k:Nat,id=k:=⟨id.toNat,by omega⟩
 have gk:Sh.getG s.I (k:Nat)=s.I k:=if_pos ix
 have eG:Sh.leaG s.I (k:Nat) o=s.I k:=(if_pos ha).trans gk
 have eT:Sh.leaT s.I (k:Nat) o=Sh.putT s.I k (s.I k).leave:=if_pos ha
 rw [eG,eT]
 rw [gk] at c
 have tz:tkOf ((s.I k).leave)=[]:=if_neg (by unfold Sh.Gr.leave;simp)
 have pm:=tkL_put s.I k ((s.I k).leave) 256 (by omega)
 rw [tz,List.append_nil] at pm
 have hi:Inw { s with I:=Sh.putT s.I k ((s.I k).leave) }:=⟨h.inw.good,h.inw.who,h.inw.top,h.inw.zero,h.inw.pok,fun j hj hs=>by
  have hs:(Sh.putT s.I k ((s.I k).leave) j).is=true:=hs
  show Gok s.A (Sh.putT s.I k ((s.I k).leave) j)
  by_cases e:j=k
  . rw [e,Sh.put_same] at hs
    rw [e,Sh.put_same]
    exact h.inw.gok k (by omega) c.1
  . rw [Sh.put_other _ _ _ _ e] at hs |-;exact h.inw.gok j hj hs,h.inw.par,h.inw.acc⟩
 generalize Sh.putT s.I k ((s.I k).leave)=I1 at pm hi |-
 have t2:=h.tok.perm pm.symm
 cases ht:(s.I k).tk with
 | false =>
  have e:tkOf (s.I k)=[]:=if_neg (by rw [ht];simp)
  rw [e,List.append_nil] at t2
  refine ⟨fun q=>absurd q (by rw [ht];simp),?_⟩
  rw [give_no _ ht]
  generalize hz:tkL I1 256=Z at t2
  exact ⟨hi,h.par,(show TOk s.A (tkL I1 256) by rw [hz];exact t2)⟩
 | true =>
  have e:tkOf (s.I k)=[s.I k]:=if_pos ⟨c.1,ht⟩
  rw [e] at t2
  have t3:TOk s.A (s.I k::tkL I1 256):=by
   generalize tkL I1 256=Z at t2 |-
   exact t2.perm (List.perm_append_comm (l₁ :=Z) (l₂ :=[s.I k]))
  obtain ⟨b1,b2,b3,b4,b5,b6⟩:=give_step hi t3
  refine ⟨b1,b2,h.par.of (give_sub { s with I:=I1 } (s.I k)).1 b4,?_⟩
  have b5:(giveS { s with I:=I1 } (s.I k)).I=I1:=b5
  rw [b5];exact b3
theorem bor_at {L:List Re.Rg} {f t p:Int} {v:Re.Att} (h:Re.atR L p=some v) (hv:v.2.2.2=1) (h1:f<=p) (h2:p<t):borB L f t=true:=by
 obtain ⟨a1,a2,a3,a4⟩:=at_fst L p v h
 obtain ⟨b1,b2⟩:=(has_iff _ _).1 a2
 refine bor_yes a1 ?_
 have hk:(L.getD (fstR L p) Re.Rg.zero).kd=1:=by rw [<- hv,<- a4];rfl
 unfold bor1
 rw [hk]
 have:0<(L.getD (fstR L p) Re.Rg.zero).len f t:=by unfold Re.Rg.len;rw [if_pos (by omega)];omega
 rw [decide_eq_true this];rfl
theorem Inv.unmap (h:Inv rk s) {i:Nat} {P:Pr} (hP:s.A i=some P) (f t:Int) (h30:(tkL s.I 256).length<=30) (hE:Re.errA (Re.checkN P.L f t) (Re.chg (fun _=>Re.Rg.zero) f t P.L)=0) (hB:borB P.L f t=false) (k:Nat) (hk:t=f+k) :
 Inv rk { s.one i { (unRun f (s.T,P) k).2 with L:=Re.outL (Re.checkN P.L f t) (Re.chg (fun _=>Re.Rg.zero) f t P.L) } with T:=(unRun f (s.T,P) k).1 }:=by
 have pk:=h.inw.pok i P hP
 obtain ⟨f1,f2,f3,f4,f5⟩:=cut_facts pk.rl hE
 rw [f1]
 have lk:=unRun_like f (s.T,P) k
 obtain ⟨K,hK⟩:=pk.ways
 obtain ⟨K',hK'⟩:=unRun_ways f (s.T,P) hK k
 have uf:=unRun_F f (s.T,P) k
 have ac:=h.inw.acc.unmap hP f k (Re.chg (fun _=>Re.Rg.zero) f t P.L) (fun x h1 h2=>by
  cases q:borP P.L x with
  | false => rfl
  | true =>
   obtain ⟨v,v1,v2⟩:=bor_ex q
   rw [bor_at v1 v2 h1 (by omega)] at hB;cases hB) (fun p=>by
  unfold borP
  rw [f5 p]
  by_cases c:f<=p/\p<f+k
  . rw [if_pos c,if_pos (by omega)]
  . rw [if_neg c,if_neg (by omega)])
 generalize unRun f (s.T,P) k=Z at lk hK' uf ac |-
 obtain ⟨T',R⟩:=Z
 have uf: ∀ x,R.F x=if f<=x/\x<f+k then none else P.F x:=uf
 refine h.one hP { R with L:=Re.chg (fun _=>Re.Rg.zero) f t P.L } lk.par ⟨f2,⟨K',hK'⟩,fun p hp=> ?_,?_⟩ (Or.inr ⟨f3,h30⟩) (fun p v a b c=> ?_) T' ac
 . have hp:R.F p≠none:=hp
   rw [uf p] at hp
   show Re.atR (Re.chg (fun _=>Re.Rg.zero) f t P.L) p≠none
   rw [f5 p]
   by_cases q:f<=p/\p<f+k
   . rw [if_pos q] at hp;exact absurd rfl hp
   . rw [if_neg q] at hp
     rw [if_neg (by omega)];exact pk.page p hp
 . show RegOk R.st
   rw [show R.st=P.st from lk.st];exact pk.reg
 . have nq: ¬ (f<=p/\p<t):=fun q=>by
    rw [bor_at b c q.1 q.2] at hB;cases hB
   refine ⟨?_,v,?_,c⟩
   . show R.F p≠none
     rw [uf p,if_neg (by omega)];exact a
   . show Re.atR (Re.chg (fun _=>Re.Rg.zero) f t P.L) p=some v
     rw [f5 p,if_neg nq];exact b
theorem Inv.offer (h:Inv rk s) (i j:Nat) (p:Int) (x:Bool) (i16:i<16) (j16:j<16) (ne:i≠j) (hi:s.A i≠none) (hj:s.A j≠none) (p0:0<=p) (p1:p<34359738368):Inv rk { s with I:=Sh.offT s.I (i:Nat) p (j:Nat) x }:=by
 unfold Sh.offT
 split
 . rename_i e
   have fr:Sh.freeF s.I (i*16) 16<i*16+16:=by
    unfold Sh.offE at e
    split at e
    . omega
    . split at e
      . rename_i c;simpa using c
      . omega
   have no:=Sh.free_no s.I 16 (i*16) fr
   rw [show ((i:Int)).toNat=i from Int.toNat_natCast i]
   generalize Sh.freeF s.I (i*16) 16=k at fr no |-
   obtain ⟨g,hg⟩: ∃ g:Sh.Gr,g=⟨(i:Nat),p,(j:Nat),x,false,0⟩:=⟨_,rfl⟩
   rw [<- hg]
   have tz:tkOf g=[]:=if_neg (by rw [hg];simp)
   have tn:tkOf (s.I k)=[]:=if_neg (by rw [no];simp)
   have pm:=tkL_put s.I k g 256 (by omega)
   rw [tz,tn,List.append_nil,List.append_nil] at pm
   refine ⟨⟨h.inw.good,h.inw.who,h.inw.top,h.inw.zero,h.inw.pok,fun y hy hs=> ?_,h.inw.par,h.inw.acc⟩,h.par,h.tok.perm pm.symm⟩
   have hs:(Sh.putT s.I k g y).is=true:=hs
   show Gok s.A (Sh.putT s.I k g y)
   by_cases e:y=k
   . rw [e,Sh.put_same,hg]
     exact ⟨i,j,rfl,rfl,i16,j16,ne,hi,hj,p0,p1⟩
   . rw [Sh.put_other _ _ _ _ e] at hs |-;exact h.inw.gok y hy hs
 . exact h
theorem Inv.spawn (h:Inv rk s) {i p:Nat} (hi:s.A i≠none) (p16:p<16) (hp:s.A p=none) (oi:Int) (T':Nat->Qo.Nd) (h30:(tkL s.I 256).length<=30) (ac:Acc T' (setA s.A p (some ⟨0,0,0,(i:Nat),oi,Tr.St.zero,none,0,[],fun _=>none,fun _ _=>none⟩))) :
 Inv (fun j=>if j=p then rk i+1 else rk j) { s with Q:=Ca.addS s.Q (p:Nat),T:=T',A:=setA s.A p (some ⟨0,0,0,(i:Nat),oi,Tr.St.zero,none,0,[],fun _=>none,fun _ _=>none⟩) }:=by
 obtain ⟨N,hN⟩: ∃ N:Pr,N=⟨0,0,0,(i:Nat),oi,Tr.St.zero,none,0,[],fun _=>none,fun _ _=>none⟩:=⟨_,rfl⟩
 rw [<- hN] at ac |-
 have pi:i≠p:=fun e=>hi (e ▸ hp)
 have p0:p≠0:=fun e=>h.inw.zero (e ▸ hp)
 have nl:(p:Int)∉s.Q.L:=fun q=>(h.inw.who p).1 q hp
 have ea:(Ca.addS s.Q (p:Nat)).L=s.Q.L++[(p:Int)]:=by
  unfold Ca.addS
  rw [if_neg (by omega),if_neg nl]
 have nep: ∀ j,s.A j≠none->j≠p:=fun j hj e=>hj (by rw [e];exact hp)
 have lv: ∀ j,s.A j≠none->setA s.A p (some N) j≠none:=fun j hj=>by
  rw [setA_other _ _ _ _ (nep j hj)];exact hj
 have z:u64B 0:=⟨by omega,by omega⟩
 have pn:Pok N:=by
  rw [hN]
  refine ⟨⟨trivial,by show (0:Int)<=_;omega⟩,⟨[],List.nodup_nil,fun p=> ?_,fun y=>rfl,fun y=>rfl,fun y=>rfl⟩,fun p hp=>absurd rfl hp,⟨fun k hk=> ?_,z,z,z,z,z⟩⟩
  . exact ⟨fun h=>absurd h List.not_mem_nil,fun h=>absurd rfl h⟩
  . rcases (by omega:k=0\/k=1\/k=2\/k=3) with e | e | e | e <;> (subst e;exact z)
 have pr:ParR (fun j=>if j=p then rk i+1 else rk j) (setA s.A p (some N)):=fun j R e=>by
  by_cases c:j=p
  . subst c
    rw [setA_same] at e;cases e
    refine Or.inr ⟨p0,i,by rw [hN],lv i hi,?_⟩
    show (if i=j then rk i+1 else rk i)<if j=j then rk i+1 else rk j
    rw [if_neg pi,if_pos rfl];omega
  . rw [setA_other _ _ _ _ c] at e
    rcases h.par j R e with q | ⟨a,k,b1,b2,b3⟩
    . exact Or.inl q
    . refine Or.inr ⟨a,k,b1,lv k b2,?_⟩
      show (if k=p then rk i+1 else rk k)<if j=p then rk i+1 else rk j
      rw [if_neg (nep k b2),if_neg c];exact b3
 refine ⟨⟨h.inw.good.add _,fun j=> ?_,fun j hj=> ?_,?_,fun j R e=> ?_,fun k hk hs=> ?_,⟨fun j=>if j=p then rk i+1 else rk j,fun j R e j0=> ?_⟩,ac⟩,pr,fun g hg=> ?_,h.tok.nd,fun j R e=> ?_⟩
 . show (j:Int)∈(Ca.addS s.Q (p:Nat)).L↔setA s.A p (some N) j≠none
   rw [ea,List.mem_append,List.mem_singleton,h.inw.who j]
   by_cases c:j=p
   . subst c;rw [setA_same];simp
   . rw [setA_other _ _ _ _ c]
     exact ⟨fun q=>q.elim id (fun e=>absurd e (by omega)),Or.inl⟩
 . show setA s.A p (some N) j=none
   rw [setA_other _ _ _ _ (by omega)];exact h.inw.top j hj
 . exact lv 0 h.inw.zero
 . have e:setA s.A p (some N) j=some R:=e
   by_cases c:j=p
   . subst c;rw [setA_same] at e;cases e;exact pn
   . rw [setA_other _ _ _ _ c] at e;exact h.inw.pok j R e
 . obtain ⟨f,d,a1,a2,a3,a4,a5,a6,a7,a8⟩:=h.inw.gok k hk hs
   exact ⟨f,d,a1,a2,a3,a4,a5,lv f a6,lv d a7,a8⟩
 . rcases pr j R e with ⟨a,_⟩ | ⟨_,b⟩
   . exact absurd a j0
   . exact b
 . obtain ⟨d,P2,b1,b2,b3,b4⟩:=h.tok.ok g hg
   refine ⟨d,P2,b1,b2,?_,b4⟩
   show setA s.A p (some N) d=some P2
   rw [setA_other _ _ _ _ (fun e=>by rw [e,hp] at b3;cases b3)];exact b3
 . have e:setA s.A p (some N) j=some R:=e
   show R.L.length+toJ (tkL s.I 256) j<=94
   by_cases c:j=p
   . subst c;rw [setA_same] at e;cases e
     have:=toJ_len (tkL s.I 256) j
     rw [hN];show 0+_<=94;omega
   . rw [setA_other _ _ _ _ c] at e;exact h.tok.len j R e
def mxR (rk:Nat->Nat):Nat->Nat
 | 0 => 0
 | n + 1 => max (mxR rk n) (rk n + 1)
theorem mxR_lt (rk:Nat->Nat): ∀ n j,j<n->rk j<mxR rk n
 | 0, _, h => absurd h (Nat.not_lt_zero _)
 | n + 1, j, h => by
  show rk j<max (mxR rk n) (rk n+1)
  by_cases c:j=n
  . rw [c];omega
  . have:=mxR_lt rk n j (by omega);omega
theorem Inv.exit (h:Inv rk s) {i:Nat} (i0:i≠0) (hi:s.A i≠none): ∃ f,EndOk f i s/\Inv rk (endS f i s)/\Ended rk i s (endS f i s):=by
 obtain ⟨B,bd⟩: ∃ B,∀ j P,s.A j=some P->rk j<B:=⟨mxR rk 16,fun j P e=>mxR_lt rk 16 j (bca fun c=>by
  have:=h.inw.top j (by omega)
  rw [e] at this;cases this)⟩
 refine ⟨B,?_⟩
 obtain ⟨a,b⟩:=end_good rk B B i s h.inw h.par h.tok bd i0 hi (Nat.le_add_left _ _)
 exact ⟨a,⟨b.inw,b.par,b.tok⟩,b⟩
theorem put_some {F:Int->Option Nat} {p x:Int} {c:Nat} (h:F x≠none):put F p (some c) x≠none:=by
 unfold put
 split
 . simp
 . exact h
theorem Inv.with' (h:Inv rk s) (B':Nat->Nat->Int) (nx':Nat):Inv rk { s with B:=B',nx:=nx' } :=
 ⟨⟨h.inw.good,h.inw.who,h.inw.top,h.inw.zero,h.inw.pok,h.inw.gok,h.inw.par,h.inw.acc⟩,h.par,h.tok⟩
theorem Inv.fresh (h:Inv rk s) {i:Nat} {P:Pr} (hP:s.A i=some P) (p:Int) (c:Nat) (hF:P.F p=none) (hL:Re.atR P.L p≠none) (T':Nat->Qo.Nd) (B':Nat->Nat->Int) (nx':Nat) (ac:Acc T' (setA s.A i (some { P with F:=put P.F p (some c),G:=bumpN (p / 512) (p / 262144) (p / 134217728) P.G 3 }))) :
 Inv rk { s.one i { P with F:=put P.F p (some c),G:=bumpN (p / 512) (p / 262144) (p / 134217728) P.G 3 } with T:=T',B:=B',nx:=nx' }:=by
 have pk:=h.inw.pok i P hP
 obtain ⟨K,hK⟩:=pk.ways
 have pg: ∀ x,put P.F p (some c) x≠none->Re.atR P.L x≠none:=fun x hx=>by
  unfold put at hx
  by_cases e:x=p
  . rw [e];exact hL
  . rw [if_neg e] at hx;exact pk.page x hx
 have q:=h.one hP { P with F:=put P.F p (some c),G:=bumpN (p / 512) (p / 262144) (p / 134217728) P.G 3 } rfl ⟨pk.rl,⟨_,hK.add hF c⟩,pg,pk.reg⟩ (Or.inl (Nat.le_refl _)) (fun x v a b e=>⟨put_some a,v,b,e⟩) T' ac
 exact q.with' B' nx'
theorem Inv.putI (h:Inv rk s) {k:Nat} (hk:k<256) (g:Sh.Gr) (hg:g.is=true->Gok s.A g) (t1:tkOf g=[]) (t2:tkOf (s.I k)=[]):Inv rk { s with I:=Sh.putT s.I k g }:=by
 have pm:=tkL_put s.I k g 256 hk
 rw [t1,t2,List.append_nil,List.append_nil] at pm
 refine ⟨⟨h.inw.good,h.inw.who,h.inw.top,h.inw.zero,h.inw.pok,fun y hy hs=> ?_,h.inw.par,h.inw.acc⟩,h.par,h.tok.perm pm.symm⟩
 have hs:(Sh.putT s.I k g y).is=true:=hs
 show Gok s.A (Sh.putT s.I k g y)
 by_cases e:y=k
 . rw [e,Sh.put_same] at hs |-;exact hg hs
 . rw [Sh.put_other _ _ _ _ e] at hs |-;exact h.inw.gok y hy hs
theorem acc_zero {I:Nat->Sh.Gr} {id o a:Int} (h:Sh.accE I id o a=0): ∃ k:Nat,id=(k:Int)/\k<256/\(I k).is=true/\(I k).dst=o/\(I k).tk=false/\0<=a/\a<34359738368/\Sh.accT I id o a=Sh.putT I k ((I k).take a)/\Sh.getG I id=I k:=by
 have eT:Sh.accT I id o a=Sh.putT I id.toNat ((I id.toNat).take a):=if_pos h
 have c1:(Sh.getG I id).is=true/\(Sh.getG I id).dst=o:=bca fun q=>by
  unfold Sh.accE at h
  rw [if_pos (by
   by_cases z:(Sh.getG I id).is=false
   . exact Or.inl z
   . exact Or.inr (fun e=>q ⟨by simpa using z,e⟩))] at h
  omega
 obtain ⟨k,rfl,k1,k2⟩:=Sh.is_in c1.1
 have c2:(Sh.getG I (k:Nat)).tk=false:=bca fun q=>by
  unfold Sh.accE at h
  rw [if_neg (by rintro (z | z);rw [c1.1] at z;cases z;exact z c1.2),if_pos (by simpa using q)] at h
  omega
 have c3:Sh.isPage a=true:=bca fun q=>by
  unfold Sh.accE at h
  rw [if_neg (by rintro (z | z);rw [c1.1] at z;cases z;exact z c1.2),if_neg (by rw [c2];simp),if_pos (by simpa using q)] at h
  omega
 unfold Sh.isPage at c3
 rw [Bool.and_eq_true,decide_eq_true_eq,decide_eq_true_eq] at c3
 rw [k2] at c1 c2
 exact ⟨k,rfl,k1,c1.1,c1.2,c2,c3.1,c3.2,by rw [eT,Int.toNat_natCast],k2⟩
theorem acc_left {I:Nat->Sh.Gr} {k:Nat} {o a:Int} (k1:k<256) (hi:(I k).is=true) (hd:(I k).dst=o):Sh.leaT (Sh.putT I k ((I k).take a)) (k:Nat) o=Sh.putT I k ((I k).take a).leave:=by
 have g:Sh.getG (Sh.putT I k ((I k).take a)) (k:Nat)=(I k).take a:=by
  unfold Sh.getG
  rw [if_pos (by omega),Int.toNat_natCast,Sh.put_same]
 have e:Sh.leaE (Sh.putT I k ((I k).take a)) (k:Nat) o=0:=by
  unfold Sh.leaE
  rw [g]
  refine if_neg ?_
  rintro (z | z | z)
  . have:(I k).is=false:=z
    rw [hi] at this;cases this
  . exact z hd
  . cases z
 unfold Sh.leaT
 rw [if_pos e,Int.toNat_natCast,Sh.put_same,Sh.put_put]
theorem Inv.undo (h:Inv rk s) {id o a:Int} (ha:Sh.accE s.I id o a=0):Inv rk { s with I:=Sh.leaT (Sh.accT s.I id o a) id o }:=by
 obtain ⟨k,rfl,k1,k2,k3,k4,k5,k6,k7,k8⟩:=acc_zero ha
 rw [k7,acc_left k1 k2 k3]
 exact h.putI k1 _ (fun _=>h.inw.gok k k1 k2) (if_neg (by rintro ⟨_,z⟩;cases z)) (if_neg (by rw [k4];simp))
theorem Inv.accept (h:Inv rk s) {id a:Int} {i:Nat} (ha:Sh.accE s.I id (i:Nat) a=0) {P:Pr} (i16:i<16) (hP:s.A i=some P) (w:Bool) (h29:(tkL s.I 256).length<=29)
 (hE:Re.errA (Re.addN P.L ⟨a,a+1,w,true,false,1⟩) (Re.addL P.L ⟨a,a+1,w,true,false,1⟩)=0) (b:Nat) (T':Nat->Qo.Nd) (L':List Re.Rg) (hL:Re.outL (Re.addN P.L ⟨a,a+1,w,true,false,1⟩) (Re.addL P.L ⟨a,a+1,w,true,false,1⟩)=L') (ac:Acc T' (setA s.A i (some { P with F:=put P.F a (some b),G:=bumpN (a / 512) (a / 262144) (a / 134217728) P.G 3,L:=L' }))) :
 Inv rk { s.one i { P with F:=put P.F a (some b),G:=bumpN (a / 512) (a / 262144) (a / 134217728) P.G 3,L:=L' } with T:=T',I:=Sh.accT s.I id (i:Nat) a }:=by
 have pk:=h.inw.pok i P hP
 obtain ⟨f1,f2,f3,f4,f5,f6⟩:=add_facts pk.rl hE
 rw [f1] at hL
 subst hL
 obtain ⟨k,rfl,k1,k2,k3,k4,k5,k6,k7,k8⟩:=acc_zero ha
 rw [k7]
 have la:Re.atR P.L a=none:=f6 a (Int.le_refl _) (by show a<a+1;omega)
 have fa:P.F a=none:=bca fun z=>pk.page a z la
 obtain ⟨K,hK⟩:=pk.ways
 have at': ∀ p,Re.atR P.L p≠none->Re.atR (Re.addL P.L ⟨a,a+1,w,true,false,1⟩) p=Re.atR P.L p:=fun p hp=>by
  rw [f5 p,if_neg (fun c=>hp (f6 p c.1 c.2))]
 have aa:Re.atR (Re.addL P.L ⟨a,a+1,w,true,false,1⟩) a=some (w,true,false,1):=by
  rw [f5 a,if_pos ⟨Int.le_refl _,by show a<a+1;omega⟩];rfl
 obtain ⟨P',hP'⟩: ∃ P':Pr,P'={ P with F:=put P.F a (some b),G:=bumpN (a / 512) (a / 262144) (a / 134217728) P.G 3,L:=Re.addL P.L ⟨a,a+1,w,true,false,1⟩ }:=⟨_,rfl⟩
 have pF:P'.F=put P.F a (some b):=by rw [hP']
 have pL:P'.L=Re.addL P.L ⟨a,a+1,w,true,false,1⟩:=by rw [hP']
 have pp:P'.par=P.par:=by rw [hP']
 have ok:Pok P':=by
  refine ⟨by rw [pL];exact f2,⟨_,by rw [hP'];exact hK.add fa b⟩,fun p hp=> ?_,by rw [hP'];exact pk.reg⟩
  rw [pF] at hp
  rw [pL]
  unfold put at hp
  by_cases e:p=a
  . rw [e,aa];simp
  . rw [if_neg e] at hp
    rw [at' p (pk.page p hp)];exact pk.page p hp
 rw [<- hP'] at ac
 have q:=h.inw.one hP P' pp ok T' ac
 have ln:P'.L.length<=64:=by rw [pL];exact f3
 rw [<- hP']
 have tz:tkOf (s.I k)=[]:=if_neg (by rw [k4];simp)
 have to':tkOf ((s.I k).take a)=[(s.I k).take a]:=if_pos ⟨k2,rfl⟩
 have pm:=tkL_put s.I k ((s.I k).take a) 256 k1
 rw [tz,to',List.append_nil] at pm
 have gk:=h.inw.gok k k1 k2
 obtain ⟨g,hg⟩: ∃ g,g=(s.I k).take a:=⟨_,rfl⟩
 have gd:g.dst=(i:Int):=by rw [hg];exact k3
 have gt:g.att=a:=by rw [hg];rfl
 have gg:Gok s.A g:=by rw [hg];exact gk
 rw [<- hg] at pm |-
 have t0:=h.tok
 obtain ⟨Z,hZ⟩: ∃ Z,tkL (Sh.putT s.I k g) 256=Z:=⟨_,rfl⟩
 obtain ⟨Y,hY⟩: ∃ Y,tkL s.I 256=Y:=⟨_,rfl⟩
 rw [hZ,hY] at pm
 rw [hY] at t0 h29
 have tl:Z.length<=30:=by
  have:=pm.length_eq
  rw [List.length_append] at this
  simp only [List.length_cons,List.length_nil] at this
  omega
 have pj: ∀ j,j≠i->toJ Z j=toJ Y j:=fun j hj=>by
  have e:=(pm.filter fun g=>g.dst==(j:Int)).length_eq
  rw [List.filter_append,List.length_append] at e
  have z:(List.filter (fun g=>g.dst==(j:Int)) [g])=[]:=by
   rw [List.filter_cons,if_neg (by rw [gd];simp;omega)];rfl
  rw [z] at e
  exact e
 have me:=fun x=>pm.mem_iff (a:=x)
 have nd':=(pm.map fun g=>(g.dst,g.att)).nodup_iff
 have nm:(g.dst,g.att)∉Y.map fun g=>(g.dst,g.att):=fun z=>by
  obtain ⟨x,x1,x2⟩:=List.mem_map.1 z
  obtain ⟨d,R,b1,b2,b3,b4,_⟩:=t0.ok x x1
  have x2:(x.dst,x.att)=(g.dst,g.att):=x2
  rw [gd,gt] at x2
  have e1:=(Prod.mk.inj x2).1
  have e2:=(Prod.mk.inj x2).2
  have e3:d=i:=by omega
  subst e3
  rw [hP] at b3;cases b3
  rw [e2] at b4;exact b4 fa
 have nd2:(Z.map fun g=>(g.dst,g.att)).Nodup:=by
  rw [nd',List.map_append]
  refine List.nodup_append.2 ⟨t0.nd,by simp,fun x hx y hy e=> ?_⟩
  have hy:y=(g.dst,g.att):=by simpa using hy
  rw [e,hy] at hx;exact nm hx
 have gok2: ∀ y,y<256->(Sh.putT s.I k g y).is=true->Gok (setA s.A i (some P')) (Sh.putT s.I k g y):=fun y hy hs=>by
  have q2:Gok s.A (Sh.putT s.I k g y):=by
   by_cases e:y=k
   . rw [e,Sh.put_same];exact gg
   . rw [Sh.put_other _ _ _ _ e] at hs |-;exact h.inw.gok y hy hs
  obtain ⟨f,d,a1,a2,a3,a4,a5,a6,a7,a8⟩:=q2
  exact ⟨f,d,a1,a2,a3,a4,a5,(setA_ne hP f).2 a6,(setA_ne hP d).2 a7,a8⟩
 generalize Sh.putT s.I k g=I1 at hZ gok2 |-
 refine ⟨⟨q.good,q.who,q.top,q.zero,q.pok,gok2,q.par,q.acc⟩,h.par.of (sub_one hP pp) (fun j=>setA_ne hP j),?_⟩
 show TOk (setA s.A i (some P')) (tkL I1 256)
 rw [hZ]
 refine ⟨fun x hx=> ?_,nd2,fun j R e=> ?_⟩
 . rcases List.mem_append.1 ((me x).1 hx) with x1 | x1
   . obtain ⟨d,R,b1,b2,b3,b4,v,b5,b6⟩:=t0.ok x x1
     by_cases c:d=i
     . subst c
       rw [hP] at b3;cases b3
       refine ⟨d,P',b1,b2,setA_same _ _ _,?_,v,?_,b6⟩
       . rw [pF];exact put_some b4
       . rw [pL,at' _ (by rw [b5];simp)];exact b5
     . exact ⟨d,R,b1,b2,(setA_other _ _ _ _ c).trans b3,b4,v,b5,b6⟩
   . have x1:x=g:=by simpa using x1
     subst x1
     refine ⟨i,P',gd,i16,setA_same _ _ _,?_,(w,true,false,1),?_,rfl⟩
     . rw [pF,gt];unfold put;rw [if_pos rfl];simp
     . rw [pL,gt];exact aa
 . by_cases c:j=i
   . subst c
     rw [setA_same] at e;cases e
     have:=toJ_len Z j
     omega
   . rw [setA_other _ _ _ _ c] at e
     rw [pj j c];exact t0.len j R e
def wtG (g:Sh.Gr):Nat:=(if g.is=true then 1 else 0)+(tkOf g).length
def ctI (I:Nat->Sh.Gr):Nat->Nat
 | 0 => 0
 | n + 1 => ctI I n + wtG (I n)
theorem ct_low (I:Nat->Sh.Gr) (k:Nat) (g:Sh.Gr): ∀ n,n<=k->ctI (Sh.putT I k g) n=ctI I n
 | 0, _ => rfl
 | n + 1, h => by rw [ctI, ctI, ct_low I k g n (by omega), Sh.put_other _ _ _ _ (by omega)]
theorem ct_put (I:Nat->Sh.Gr) (k:Nat) (g:Sh.Gr): ∀ n,k<n->ctI (Sh.putT I k g) n+wtG (I k)=ctI I n+wtG g
 | 0, h => absurd h (Nat.not_lt_zero _)
 | n + 1, h => by
  rw [ctI,ctI]
  by_cases e:k=n
  . subst e
    rw [Sh.put_same,ct_low I k g k (Nat.le_refl _)];omega
  . rw [Sh.put_other _ _ _ _ (Ne.symm e)]
    have q:=ct_put I k g n (by omega)
    omega
theorem ct_tk (I:Nat->Sh.Gr): ∀ n,2*(tkL I n).length<=ctI I n
 | 0 => Nat.le_refl _
 | n + 1 => by
  have q:=ct_tk I n
  rw [ctI,tkL,List.length_append]
  unfold wtG tkOf
  by_cases c:(I n).is=true/\(I n).tk=true
  . rw [if_pos c,if_pos c.1];simp only [List.length_cons,List.length_nil];omega
  . rw [if_neg c];simp only [List.length_nil];omega
def LeI (I' I:Nat->Sh.Gr):Prop:= ∀ k,I' k=I k\/I' k=Sh.Gr.zero
theorem LeI.refl (I:Nat->Sh.Gr):LeI I I:=fun _=>Or.inl rfl
theorem LeI.trans {A B C:Nat->Sh.Gr} (h:LeI A B) (k:LeI B C):LeI A C:=fun j=>by
 rcases h j with e | e
 . rw [e];exact k j
 . exact Or.inr e
theorem wt_zero:wtG Sh.Gr.zero=0:=rfl
theorem ct_le {I I':Nat->Sh.Gr} (h:LeI I' I): ∀ n,ctI I' n<=ctI I n
 | 0 => Nat.le_refl _
 | n + 1 => by
  have q:=ct_le h n
  rw [ctI,ctI]
  rcases h n with e | e
  . rw [e];omega
  . rw [e,wt_zero];omega
def Cn (t:Nat) (I:Nat->Sh.Gr):Prop:= ∀ n,n<=256->ctI I n<=t
theorem Cn.more {t t':Nat} {I:Nat->Sh.Gr} (h:Cn t I) (e:t<=t'):Cn t' I:=fun n hn=>Nat.le_trans (h n hn) e
theorem Cn.sub {t:Nat} {I I':Nat->Sh.Gr} (h:Cn t I) (e:LeI I' I):Cn t I':=fun n hn=>Nat.le_trans (ct_le e n) (h n hn)
theorem Cn.put {t d:Nat} {I:Nat->Sh.Gr} (h:Cn t I) (k:Nat) (g:Sh.Gr) (e:wtG g<=wtG (I k)+d):Cn (t+d) (Sh.putT I k g):=fun n hn=>by
 have a:=h n hn
 by_cases c:k<n
 . have q:=ct_put I k g n c;omega
 . rw [ct_low I k g n (by omega)];omega
theorem Cn.tk {t:Nat} {I:Nat->Sh.Gr} (h:Cn t I):2*(tkL I 256).length<=t:=Nat.le_trans (ct_tk I 256) (h 256 (Nat.le_refl _))
theorem wt_un {g:Sh.Gr} (h:g.tk=false):wtG g<=1:=by
 unfold wtG tkOf
 rw [if_neg (c:=_/\_) (by rw [h];simp)]
 simp only [List.length_nil]
 split <;> omega
theorem wt_is {g:Sh.Gr} (h:g.is=true):1<=wtG g:=by
 unfold wtG
 rw [if_pos h];omega
theorem wt_two (g:Sh.Gr):wtG g<=2:=by
 unfold wtG tkOf
 split <;> split <;> simp
theorem Cn.offer {t:Nat} {I:Nat->Sh.Gr} (h:Cn t I) (f:Nat) (p d:Int) (x:Bool):Cn (t+1) (Sh.offT I (f:Nat) p d x):=by
 unfold Sh.offT
 split
 . exact h.put _ _ (Nat.le_trans (wt_un rfl) (by omega))
 . exact h.more (by omega)
theorem Cn.accept {t:Nat} {I:Nat->Sh.Gr} (h:Cn t I) {id o a:Int} (ha:Sh.accE I id o a=0):Cn (t+1) (Sh.accT I id o a):=by
 obtain ⟨k,rfl,k1,k2,k3,k4,k5,k6,k7,k8⟩:=acc_zero ha
 rw [k7]
 exact h.put k _ (by have:=wt_is k2;have:=wt_two ((I k).take a);omega)
theorem Cn.undo {t:Nat} {I:Nat->Sh.Gr} (h:Cn t I) {id o a:Int} (ha:Sh.accE I id o a=0):Cn t (Sh.leaT (Sh.accT I id o a) id o):=by
 obtain ⟨k,rfl,k1,k2,k3,k4,k5,k6,k7,k8⟩:=acc_zero ha
 rw [k7,acc_left k1 k2 k3]
 exact h.put (d:=0) k _ (by have:=wt_is k2;have:=wt_un (g:=((I k).take a).leave) rfl;omega)
theorem Cn.revoke {t:Nat} {I:Nat->Sh.Gr} (h:Cn t I) (id o:Int):Cn t (Sh.revT I id o):=by
 unfold Sh.revT
 split
 . exact h.put (d:=0) _ _ (by rw [wt_zero];omega)
 . exact h
theorem lea_is {I:Nat->Sh.Gr} {id o:Int} (h:Sh.leaE I id o=0):(I id.toNat).is=true:=by
 have c:(Sh.getG I id).is=true:=bca fun q=>by
  unfold Sh.leaE at h
  rw [if_pos (Or.inl (by simpa using q))] at h
  omega
 obtain ⟨k,rfl,k1,k2⟩:=Sh.is_in c
 rw [Int.toNat_natCast,<- k2];exact c
theorem Cn.leave {t:Nat} {I:Nat->Sh.Gr} (h:Cn t I) (id o:Int):Cn t (Sh.leaT I id o):=by
 unfold Sh.leaT
 split
 . rename_i c
   exact h.put (d:=0) _ _ (by have:=wt_is (lea_is c);have:=wt_un (g:=(I id.toNat).leave) rfl;omega)
 . exact h
theorem give_I (s:Sa) (g:Sh.Gr):(giveS s g).I=s.I:=by
 unfold giveS
 split
 . split <;> rfl
 . rfl
theorem give_Is: ∀ (L:List Sh.Gr) (s:Sa),(giveAll L s).I=s.I
 | [], s => rfl
 | g :: r, s => (give_Is r (giveS s g)).trans (give_I s g)
theorem fin_I (s:Sa) (i:Nat):(finS s i).I=s.I:=by
 unfold finS
 split <;> rfl
theorem clr_le (s:Sa) (i:Nat):LeI (clrI s i).I s.I:=fun k=>by
 unfold clrI
 generalize Sh.ofL s.I (i:Nat) 256=L
 show Sh.clrL s.I L k=_\/Sh.clrL s.I L k=_
 rw [clr_at]
 split
 . exact Or.inr rfl
 . exact Or.inl rfl
theorem run_le (f:Nat) (E: ∀ i s,LeI (endS f i s).I s.I): ∀ (L:List Nat) (s:Sa),LeI (runS (endS f) L s).I s.I
 | [], s => LeI.refl _
 | c :: r, s => (run_le f E r (endS f c s)).trans (E c s)
theorem giveI_I (s:Sa) (i:Nat):(giveI s i).I=(clrI s i).I:=by
 unfold giveI
 generalize goneI s i=L
 generalize clrI s i=C
 exact give_Is L C
theorem end_le: ∀ f i s,LeI (endS f i s).I s.I
 | 0, i, s => LeI.refl _
 | f + 1, i, s => by
  have r:=run_le f (fun i s=>end_le f i s) (childL s.A (i:Nat) 16) s
  have eS:endS (f+1) i s=finS (giveI (runS (endS f) (childL s.A (i:Nat) 16) s) i) i:=rfl
  rw [eS]
  generalize childL s.A (i:Nat) 16=L at r |-
  generalize runS (endS f) L s=s1 at r |-
  rw [fin_I,giveI_I]
  exact (clr_le s1 i).trans r
def lvA (A:Nat->Option Pr):Nat->Nat
 | 0 => 0
 | n + 1 => lvA A n + if A n = none then 0 else 1
theorem lv_le {A A':Nat->Option Pr} (h: ∀ j,A j=none->A' j=none): ∀ n,lvA A' n<=lvA A n
 | 0 => Nat.le_refl _
 | n + 1 => by
  have q:=lv_le h n
  rw [lvA,lvA]
  by_cases c:A n=none
  . rw [if_pos c,if_pos (h n c)];omega
  . rw [if_neg c];split <;> omega
theorem lv_bd (A:Nat->Option Pr): ∀ n,lvA A n<=n
 | 0 => Nat.le_refl _
 | n + 1 => by have := lv_bd A n; rw [lvA]; split <;> omega
theorem lv_low (A:Nat->Option Pr) (i:Nat) (P:Option Pr): ∀ n,n<=i->lvA (setA A i P) n=lvA A n
 | 0, _ => rfl
 | n + 1, h => by rw [lvA, lvA, lv_low A i P n (by omega), setA_other _ _ _ _ (by omega)]
theorem lv_del (A:Nat->Option Pr) (i:Nat) (h:A i≠none): ∀ n,i<n->lvA (setA A i none) n+1=lvA A n
 | 0, e => absurd e (Nat.not_lt_zero _)
 | n + 1, e => by
  rw [lvA,lvA]
  by_cases c:i=n
  . subst c
    rw [lv_low A i none i (Nat.le_refl _),setA_same,if_pos rfl,if_neg h]
  . rw [setA_other _ _ _ _ (Ne.symm c)]
    have:=lv_del A i h n (by omega)
    omega
theorem gone_few (s:Sa) (i:Nat):(goneI s i).length<=256:=by
 have q:=Sh.of_len s.I (i:Nat) 256
 unfold goneI
 generalize Sh.ofL s.I (i:Nat) 256=L at q |-
 rw [Sh.gone_len];exact q
theorem run_few (f m:Nat) (E: ∀ i s,i<16->EndOk f i s->endK f i s+256*lvA (endS f i s).A m<=256*lvA s.A m): ∀ (L:List Nat) (s:Sa),RunOk (endS f) (fun c s=>c<16/\EndOk f c s) L s->runK (endS f) (endK f) L s+256*lvA (runS (endS f) L s).A m<=256*lvA s.A m
 | [], s, _ => by show 0 + 256 * lvA s.A m ≤ _; omega
 | c :: r, s, h => by
  have a:=E c s h.1.1 h.1.2
  have b:=run_few f m E r (endS f c s) h.2
  show endK f c s+runK (endS f) (endK f) r (endS f c s)+256*lvA (runS (endS f) r (endS f c s)).A m<=_
  omega
set_option linter.constructorNameAsVariable false in
theorem end_few1 (m:Nat) (hm:16<=m) (f:Nat) (IH: ∀ i s,i<16->EndOk f i s->endK f i s+256*lvA (endS f i s).A m<=256*lvA s.A m) (i:Nat) (s:Sa) (hi:i<16) (h:EndOk (f+1) i s):endK (f+1) i s+256*lvA (endS (f+1) i s).A m<=256*lvA s.A m:=by
 have r:=run_few f m IH (childL s.A (i:Nat) 16) s
 have eS:endS (f+1) i s=finS (giveI (runS (endS f) (childL s.A (i:Nat) 16) s) i) i:=rfl
 have eK:endK (f+1) i s=runK (endS f) (endK f) (childL s.A (i:Nat) 16) s+(goneI (runS (endS f) (childL s.A (i:Nat) 16) s) i).length:=rfl
 have eO:EndOk (f+1) i s↔RunOk (endS f) (fun c s=>c<16/\EndOk f c s) (childL s.A (i:Nat) 16) s/\GivesOk (goneI (runS (endS f) (childL s.A (i:Nat) 16) s) i) (clrI (runS (endS f) (childL s.A (i:Nat) 16) s) i)/\(∃ P,(giveI (runS (endS f) (childL s.A (i:Nat) 16) s) i).A i=some P)/\Ca.Good (giveI (runS (endS f) (childL s.A (i:Nat) 16) s) i).Q:=Iff.rfl
 rw [eO] at h
 rw [eS,eK]
 clear eS eK eO
 obtain ⟨h1,_,h2,_⟩:=h
 generalize childL s.A (i:Nat) 16=L at r h1 h2 |-
 have r:=r h1
 clear h1
 generalize runK (endS f) (endK f) L s=k at r |-
 generalize runS (endS f) L s=s1 at r h2 |-
 have gf:=gone_few s1 i
 have sb:SubA s1.A (giveI s1 i).A:=by
  unfold giveI
  generalize goneI s1 i=GL
  have e:(clrI s1 i).A=s1.A:=by unfold clrI;rfl
  rw [<- e]
  exact give_subs GL (clrI s1 i)
 have l1:=lv_le (fun j=>sb.none (j:=j)) m
 generalize (goneI s1 i).length=gl at gf |-
 generalize giveI s1 i=s2 at h2 l1 |-
 obtain ⟨P,hP⟩:=h2
 have eF:(finS s2 i).A=setA s2.A i none:=by unfold finS;rw [hP]
 rw [eF]
 have:=lv_del s2.A i (by rw [hP];simp) m (by omega)
 omega
theorem end_few (m:Nat) (hm:16<=m): ∀ f i s,i<16->EndOk f i s->endK f i s+256*lvA (endS f i s).A m<=256*lvA s.A m
 | 0 => fun i s _ h => False.elim h
 | f + 1 => end_few1 m hm f (end_few m hm f)
theorem end_short (f i:Nat) (s:Sa) (hi:i<16) (h:EndOk f i s):endK f i s<=60000:=by
 obtain ⟨m,hm⟩: ∃ m:Nat,m=16:=⟨_,rfl⟩
 have a:=end_few m (by omega) f i s hi h
 have b:=lv_bd s.A m
 omega
def Go' (rk:Nat->Nat) (t i:Nat) (c:Ca.Cl) (s:Sa) (g:Bool):Prop:= ∃ (X E fa fc:Int) (up:Bool) (s':Sa) (rk':Nat->Nat),(∀ M root,Srv M root i c s (Ro X E fa fc up) s')/\Inv rk' s'/\Cn (if g=true then t+1 else t) s'.I
theorem Go'.same {rk:Nat->Nat} {t i:Nat} {c:Ca.Cl} {s:Sa} {g:Bool} (h:Inv rk s) (ht:Cn t s.I) (X E fa fc:Int) (up:Bool) (hS: ∀ M root,Srv M root i c s (Ro X E fa fc up) s):Go' rk t i c s g:=⟨X,E,fa,fc,up,s,rk,hS,h,ht.more (by split <;> omega)⟩
theorem Go'.to {rk rk':Nat->Nat} {t i:Nat} {c:Ca.Cl} {s s':Sa} {g:Bool} (h:Inv rk' s') (ht:Cn t s'.I) (X E fa fc:Int) (up:Bool) (hS: ∀ M root,Srv M root i c s (Ro X E fa fc up) s'):Go' rk t i c s g:=⟨X,E,fa,fc,up,s',rk',hS,h,ht.more (by split <;> omega)⟩
theorem tk30 {t:Nat} {s:Sa} (h:Cn t s.I) (ht:t<=60):(tkL s.I 256).length<=30:=by have:=h.tk;omega
theorem add_len {L:List Re.Rg} {r:Re.Rg} (h:RL L) (hE:Re.errA (Re.addN L r) (Re.addL L r)=0):(Re.outL (Re.addN L r) (Re.addL L r)).length<=100:=by
 obtain ⟨f1,f2,f3,_⟩:=add_facts h hE
 rw [f1];omega
section
variable {rk:Nat->Nat} {t i:Nat} {s:Sa} {P:Pr}
theorem go1 (h:Inv rk s) (ht:Cn t s.I) (t60:t<=60) (hi:i<16) (hP:s.A i=some P) (c:Ca.Cl) (hop:c.op=1):Go' rk t i c s false:=by
 have pk:=h.inw.pok i P hP
 by_cases e:Re.errA (Re.addN P.L ⟨c.fr,c.til,c.pw,c.pu,c.px,0⟩) (Re.addL P.L ⟨c.fr,c.til,c.pw,c.pu,c.px,0⟩)=0
 . exact Go'.to (h.map hP ⟨c.fr,c.til,c.pw,c.pu,c.px,0⟩ (by show (0:Int)≠1;omega) (tk30 ht t60) e) ht _ _ _ _ _ (fun M root=>srv1 M root hi c hop s hP e (add_len pk.rl e))
 . exact Go'.same h ht _ _ _ _ _ (fun M root=>srv1_no M root hi c hop s hP _ e rfl)
theorem go2 (h:Inv rk s) (ht:Cn t s.I) (t60:t<=60) (hi:i<16) (hP:s.A i=some P) (c:Ca.Cl) (hop:c.op=2):Go' rk t i c s false:=by
 have pk:=h.inw.pok i P hP
 by_cases e:Re.errA (Re.checkN P.L c.fr c.til) (Re.chg (fun _=>Re.Rg.zero) c.fr c.til P.L)=0
 . by_cases b:borB P.L c.fr c.til=true
   . exact Go'.same h ht _ _ _ _ _ (fun M root=>srv2_bor M root hi c hop s hP e pk.rl.num b)
   . have b:borB P.L c.fr c.til=false:=by simpa using b
     by_cases l:lendsB s.I (i:Nat) c.fr c.til=true
     . exact Go'.same h ht _ _ _ _ _ (fun M root=>srv2_len M root hi c hop s hP e pk.rl.num b l)
     . have l:lendsB s.I (i:Nat) c.fr c.til=false:=by simpa using l
       obtain ⟨f1,f2,f3,f4,f5⟩:=cut_facts pk.rl e
       obtain ⟨k,hk⟩: ∃ k:Nat,c.til=c.fr+k:=⟨(c.til-c.fr).toNat,by omega⟩
       exact Go'.to (h.unmap hP c.fr c.til (tk30 ht t60) e b k hk) ht _ _ _ _ _ (fun M root=>srv2 M root hi c hop s hP e pk.rl.num b l (by rw [f1];omega) pk.ways (by omega) (by omega) k hk (by omega))
 . exact Go'.same h ht _ _ _ _ _ (fun M root=>srv2_no M root hi c hop s hP _ e rfl)
theorem go3 (h:Inv rk s) (ht:Cn t s.I) (t60:t<=60) (hi:i<16) (hP:s.A i=some P) (c:Ca.Cl) (hop:c.op=3):Go' rk t i c s false:=by
 have pk:=h.inw.pok i P hP
 by_cases e:Re.errA (Re.protN P.L c.fr c.til) (Re.chg (fun r=>r.may c.pw c.pu c.px) c.fr c.til P.L)=0
 . by_cases b:borB P.L c.fr c.til=true
   . exact Go'.same h ht _ _ _ _ _ (fun M root=>srv3_bor M root hi c hop s hP e pk.rl.num b)
   . have b:borB P.L c.fr c.til=false:=by simpa using b
     by_cases l:lendsB s.I (i:Nat) c.fr c.til=true
     . exact Go'.same h ht _ _ _ _ _ (fun M root=>srv3_len M root hi c hop s hP e pk.rl.num b l)
     . have l:lendsB s.I (i:Nat) c.fr c.til=false:=by simpa using l
       obtain ⟨f1,f2,f3,f4,f5⟩:=prot_facts pk.rl e
       exact Go'.to (h.protect hP c.fr c.til c.pw c.pu c.px (tk30 ht t60) e) ht _ _ _ _ _ (fun M root=>srv3 M root hi c hop s hP e pk.rl.num b l (by rw [f1];omega))
 . exact Go'.same h ht _ _ _ _ _ (fun M root=>srv3_no M root hi c hop s hP _ e rfl)
theorem code_bd (w b:Bool):u64B (codeU w b):=by cases w <;> cases b <;> (constructor <;> decide)
theorem at_of {L:List Re.Rg} {p g1 g2 gk:Int} {gw gu gx:Bool} (hz:Re.findR L p=(⟨g1,g2,gw,gu,gx,gk⟩,true)):Re.atR L p=some (gw,gu,gx,gk):=by
 rw [find_at L p,hz];rfl
theorem go4 (h:Inv rk s) (ht:Cn t s.I) (t60:t<=60) (hi:i<16) (hP:s.A i=some P) (c:Ca.Cl) (hop:c.op=4) (a0:0<=c.ad) (a1:c.ad<140737488355328) (s0:0<=c.sz) (s8:c.sz<=8) (am:c.ad % 4096+c.sz<=4096):Go' rk t i c s false:=by
 have pk:=h.inw.pok i P hP
 have ac:=h.inw.acc.pa i P hP
 obtain ⟨p,hp⟩: ∃ p,c.ad / 4096=p:=⟨_,rfl⟩
 obtain ⟨⟨⟨g1,g2,gw,gu,gx,gk⟩,z⟩,hz⟩: ∃ R,Re.findR P.L p=R:=⟨_,rfl⟩
 have ub:u64B c.ad:=⟨a0,by omega⟩
 cases z with
 | false => exact Go'.to (h.state hP _ (reg_raise pk.reg ub (code_bd false (P.F p).isSome))) ht _ _ _ _ _ (fun M root => srv4_out M root hi c hop s hP p hp a0 a1 g1 g2 gk gw gu gx hz)
 | true =>
  by_cases y:mayV gw gu gx false true false=true
  . cases hF:P.F p with
    | some b => exact Go'.to (s' := s) (h) ht _ _ _ _ _ (fun M root => srv4_there M root hi c hop s hP p hp a0 a1 g1 g2 gk gw gu gx hz y s0 s8 am b hF)
    | none =>
     by_cases m:Qo.mayN s.T P.k (costK 1 (p / 512) (p / 262144) (p / 134217728) P.G 3)=0
     . have la:=at_of hz
       have nb:borP P.L p=false:=by
        cases q:borP P.L p with
        | false => rfl
        | true => exact (ac.bor p q hF).elim
       have A1:=h.inw.acc.more hP P.L p s.nx 1 (by rw [if_neg (by rw [nb];simp)]) hF (fun _ _=>rfl) m _ rfl
       exact Go'.to (h.fresh hP p s.nx hF (by rw [la];simp) _ _ _ A1) ht _ _ _ _ _ (fun M root=>srv4_new M root hi c hop s hP p hp a0 a1 g1 g2 gk gw gu gx hz y s0 s8 am hF m)
     . exact Go'.same h ht _ _ _ _ _ (fun M root=>srv4_full M root hi c hop s hP p hp a0 a1 g1 g2 gk gw gu gx hz y hF _ rfl m)
  . have y:mayV gw gu gx false true false=false:=by simpa using y
    exact Go'.to (h.state hP _ (reg_raise pk.reg ub (code_bd false (P.F p).isSome))) ht _ _ _ _ _ (fun M root=>srv4_may M root hi c hop s hP p hp a0 a1 g1 g2 gk gw gu gx hz y)
theorem go5 (h:Inv rk s) (ht:Cn t s.I) (t60:t<=60) (hi:i<16) (hP:s.A i=some P) (c:Ca.Cl) (hop:c.op=5) (a0:0<=c.ad) (a1:c.ad<140737488355328) (s0:0<=c.sz) (s8:c.sz<=8) (am:c.ad % 4096+c.sz<=4096) (x0:0<=c.x) (x1:c.x<18446744073709551616):Go' rk t i c s false:=by
 have pk:=h.inw.pok i P hP
 have ac:=h.inw.acc.pa i P hP
 obtain ⟨p,hp⟩: ∃ p,c.ad / 4096=p:=⟨_,rfl⟩
 obtain ⟨⟨⟨g1,g2,gw,gu,gx,gk⟩,z⟩,hz⟩: ∃ R,Re.findR P.L p=R:=⟨_,rfl⟩
 have ub:u64B c.ad:=⟨a0,by omega⟩
 cases z with
 | false => exact Go'.to (h.state hP _ (reg_raise pk.reg ub (code_bd true (P.F p).isSome))) ht _ _ _ _ _ (fun M root => srv5_out M root hi c hop s hP p hp a0 a1 g1 g2 gk gw gu gx hz)
 | true =>
  by_cases y:mayV gw gu gx true true false=true
  . cases hF:P.F p with
    | some b => exact Go'.to (s' := { s with B := updB s.B b (cset (s.B b) (c.ad % 4096).toNat c.sz.toNat c.x) }) ((h.with' _ s.nx)) ht _ _ _ _ _ (fun M root => srv5_there M root hi c hop s hP p hp a0 a1 g1 g2 gk gw gu gx hz y s0 s8 am x0 x1 b hF)
    | none =>
     by_cases m:Qo.mayN s.T P.k (costK 1 (p / 512) (p / 262144) (p / 134217728) P.G 3)=0
     . have la:=at_of hz
       have nb:borP P.L p=false:=by
        cases q:borP P.L p with
        | false => rfl
        | true => exact (ac.bor p q hF).elim
       have A1:=h.inw.acc.more hP P.L p s.nx 1 (by rw [if_neg (by rw [nb];simp)]) hF (fun _ _=>rfl) m _ rfl
       exact Go'.to (h.fresh hP p s.nx hF (by rw [la];simp) _ _ _ A1) ht _ _ _ _ _ (fun M root=>srv5_new M root hi c hop s hP p hp a0 a1 g1 g2 gk gw gu gx hz y s0 s8 am x0 x1 hF m)
     . exact Go'.same h ht _ _ _ _ _ (fun M root=>srv5_full M root hi c hop s hP p hp a0 a1 g1 g2 gk gw gu gx hz y hF _ rfl m)
  . have y:mayV gw gu gx true true false=false:=by simpa using y
    exact Go'.to (h.state hP _ (reg_raise pk.reg ub (code_bd true (P.F p).isSome))) ht _ _ _ _ _ (fun M root=>srv5_may M root hi c hop s hP p hp a0 a1 g1 g2 gk gw gu gx hz y)
theorem go6 (h:Inv rk s) (ht:Cn t s.I) (hi:i<16) (hP:s.A i=some P) (c:Ca.Cl) (hop:c.op=6) (j:Nat) (hj:c.id=(j:Int)) (j16:j<16) (p0:0<=c.fr) (p1:c.fr<34359738368):Go' rk t i c s true:=by
 by_cases hJ:s.A j=none
 . exact Go'.same h ht _ _ _ _ _ (fun M root=>srv6_none M root hi c hop s hP j hj j16 hJ)
 . by_cases hk:j=i
   . exact Go'.same h ht _ _ _ _ _ (fun M root=>srv6_self M root hi c hop s hP j hj j16 hJ hk)
   . by_cases hl:lendE P c.fr c.pw=0
     . refine ⟨_,_,_,_,_,{ s with I:=Sh.offT s.I (i:Nat) c.fr c.id c.pw },rk,fun M root=>srv6 M root hi c hop s hP j hj j16 hJ hk p0 p1 hl,?_,ht.offer i _ _ _⟩
       rw [hj]
       exact h.offer i j c.fr c.pw hi j16 (Ne.symm hk) (by rw [hP];simp) hJ p0 p1
     . exact Go'.same h ht _ _ _ _ _ (fun M root=>srv6_no M root hi c hop s hP j hj j16 hJ hk p0 p1 _ hl rfl)
theorem go7 (h:Inv rk s) (ht:Cn t s.I) (t60:t<=59) (hi:i<16) (hP:s.A i=some P) (c:Ca.Cl) (hop:c.op=7):Go' rk t i c s true:=by
 by_cases ha:Sh.accE s.I c.id (i:Nat) c.fr=0
 . obtain ⟨k,hk,k1,k2,k3,k4,k5,k6,k7,k8⟩:=acc_zero ha
   obtain ⟨sr,d,q1,q2,s16,d16,hne,q6,q7,p0,p1⟩:=h.inw.gok k k1 k2
   have ed:d=i:=by omega
   subst ed
   obtain ⟨PS,hS⟩:=Option.ne_none_iff_exists'.1 q6
   obtain ⟨⟨gf,gp,gd,gw,gt,ga⟩,hg⟩: ∃ g,s.I k=g:=⟨_,rfl⟩
   rw [hg] at q1 p0 p1
   have q1:gf=(sr:Int):=q1
   rw [hg] at q2
   have q2:gd=(d:Int):=q2
   subst q1 q2
   have hG:Sh.getG (Sh.accT s.I c.id (d:Nat) c.fr) c.id=⟨(sr:Nat),gp,(d:Nat),gw,true,c.fr⟩:=by
    rw [k7,hk]
    unfold Sh.getG
    rw [if_pos (by omega),Int.toNat_natCast,Sh.put_same,hg];rfl
   have hu:=h.undo ha
   have cu:=ht.undo ha
   by_cases hl:lendE PS gp gw=0
   . by_cases hE:Re.errA (Re.addN P.L ⟨c.fr,c.fr+1,gw,true,false,1⟩) (Re.addL P.L ⟨c.fr,c.fr+1,gw,true,false,1⟩)=0
     . have hF: ∃ b,PS.F gp=some b:=by
        unfold lendE at hl
        cases q:PS.F gp with
        | some b => exact ⟨b, rfl⟩
        | none => rw [if_pos (Or.inr q)] at hl; omega
       obtain ⟨b,hF⟩:=hF
       have pk:=h.inw.pok d P hP
       by_cases hm:Qo.mayN s.T P.k (costK 0 (c.fr / 512) (c.fr / 262144) (c.fr / 134217728) P.G 3)=0
       . obtain ⟨f1,f2,f3,f4,f5,f6⟩:=add_facts pk.rl hE
         have la:Re.atR P.L c.fr=none:=f6 c.fr (Int.le_refl _) (by show c.fr<c.fr+1;omega)
         have aa:Re.atR (Re.addL P.L ⟨c.fr,c.fr+1,gw,true,false,1⟩) c.fr=some (gw,true,false,1):=by
          rw [f5 c.fr,if_pos ⟨Int.le_refl _,by show c.fr<c.fr+1;omega⟩];rfl
         have fa:P.F c.fr=none:=bca fun z=>pk.page c.fr z la
         have A1:=h.inw.acc.more hP (Re.outL (Re.addN P.L ⟨c.fr,c.fr+1,gw,true,false,1⟩) (Re.addL P.L ⟨c.fr,c.fr+1,gw,true,false,1⟩)) c.fr b 0 (by rw [f1,if_pos (by rw [bor_some aa];rfl)]) fa (fun p hp=>by
          rw [f1];unfold borP
          rw [f5 p,if_neg (by show ¬ (c.fr<=p/\p<c.fr+1);omega)]) hm _ rfl
         exact ⟨_,_,_,_,_,_,rk,fun M root=>srv7 M root hi c hop s ha _ rfl sr d gp gw true c.fr hG s16 d16 hne hS hP p0 p1 hl k5 k6 hE _ rfl (add_len pk.rl hE) b hF hm,h.accept ha d16 hP gw (by have:=ht.tk;omega) hE b _ _ rfl A1,ht.accept ha⟩
       . exact Go'.to hu cu _ _ _ _ _ (fun M root=>srv7_full M root hi c hop s ha _ rfl sr d gp gw true c.fr hG s16 d16 hne hS hP p0 p1 _ hm hl k5 k6 hE b hF rfl)
     . exact Go'.to hu cu _ _ _ _ _ (fun M root=>srv7_add M root hi c hop s ha _ rfl sr d gp gw true c.fr hG s16 d16 hne hS hP p0 p1 _ hE hl k5 k6 rfl)
   . exact Go'.to hu cu _ _ _ _ _ (fun M root=>srv7_lend M root hi c hop s ha _ rfl sr d gp gw true c.fr hG s16 d16 hne hS hP p0 p1 _ hl rfl)
 . exact Go'.same h ht _ _ _ _ _ (fun M root=>srv7_no M root hi c hop s _ ha rfl)
theorem go8 (h:Inv rk s) (ht:Cn t s.I) (hi:i<16) (c:Ca.Cl) (hop:c.op=8):Go' rk t i c s false:=by
 by_cases ha:Sh.revE s.I c.id (i:Nat)=0
 . obtain ⟨ok,q⟩:=h.revoke c.id (i:Nat) ha
   exact Go'.to q (by rw [give_I];exact ht.revoke _ _) _ _ _ _ _ (fun M root=>srv8 M root hi c hop s ha _ rfl _ rfl ok)
 . exact Go'.same h ht _ _ _ _ _ (fun M root=>srv8_no M root hi c hop s _ ha rfl)
theorem go9 (h:Inv rk s) (ht:Cn t s.I) (hi:i<16) (c:Ca.Cl) (hop:c.op=9):Go' rk t i c s false:=by
 by_cases ha:Sh.leaE s.I c.id (i:Nat)=0
 . obtain ⟨ok,q⟩:=h.leave c.id (i:Nat) ha
   exact Go'.to q (by rw [give_I];exact ht.leave _ _) _ _ _ _ _ (fun M root=>srv9 M root hi c hop s ha _ rfl _ rfl ok)
 . exact Go'.same h ht _ _ _ _ _ (fun M root=>srv9_no M root hi c hop s _ ha rfl)
theorem go10 (h:Inv rk s) (ht:Cn t s.I) (hi:i<16) (hP:s.A i=some P) (c:Ca.Cl) (hop:c.op=10) (a:u64B c.ad):Go' rk t i c s false :=
 Go'.to (h.state hP _ (reg_han (h.inw.pok i P hP).reg a)) ht _ _ _ _ _ (fun M root=>srv10 M root hi c hop s hP)
theorem go11 (h:Inv rk s) (ht:Cn t s.I) (hi:i<16) (hP:s.A i=some P) (c:Ca.Cl) (hop:c.op=11):Go' rk t i c s false :=
 Go'.to (h.state hP _ (reg_ret (h.inw.pok i P hP).reg)) ht _ _ _ _ _ (fun M root=>srv11 M root hi c hop s hP)
theorem go15 (h:Inv rk s) (ht:Cn t s.I) (hi:i<16) (hP:s.A i=some P) (c:Ca.Cl) (hop:c.op=15):Go' rk t i c s false :=
 Go'.to (h.state hP _ (reg_rec (h.inw.pok i P hP).reg c.id c.a c.b c.d)) ht _ _ _ _ _ (fun M root=>srv15 M root hi c hop s hP (h.inw.pok i P hP).reg)
theorem go16 (h:Inv rk s) (ht:Cn t s.I) (hi:i<16) (hP:s.A i=some P) (c:Ca.Cl) (hop:c.op=16) (a:u64B c.x):Go' rk t i c s false :=
 Go'.to (h.state hP _ (reg_mov (h.inw.pok i P hP).reg a)) ht _ _ _ _ _ (fun M root=>srv16 M root hi c hop s hP)
theorem go14 (h:Inv rk s) (ht:Cn t s.I) (hi:i<16) (c:Ca.Cl) (hop:c.op=14):Go' rk t i c s false :=
 Go'.to h.yield ht _ _ _ _ _ (fun M root=>srv14 M root hi c hop s)
theorem go13 (h:Inv rk s) (ht:Cn t s.I) (hi:i<16) (hP:s.A i=some P) (c:Ca.Cl) (hop:c.op=13):Go' rk t i c s false:=by
 by_cases i0:i=0
 . subst i0
   exact Go'.same h ht _ _ _ _ _ (fun M root=>srv13_first M root hi c hop s)
 . obtain ⟨f,ok,q,_⟩:=h.exit i0 (by rw [hP];simp)
   exact Go'.to q (ht.sub (end_le f i s)) _ _ _ _ _ (fun M root=>srv13 M root hi c hop s i0 f ok (end_short f i s hi ok))
theorem low_some (A:Nat->Option Pr): ∀ f m,m<=lowA A m f/\lowA A m f<=m+f/\(lowA A m f<m+f->A (lowA A m f)=none)
 | 0, m => ⟨Nat.le_refl _, Nat.le_refl _, fun h => absurd h (Nat.lt_irrefl _)⟩
 | f + 1, m => by
  have q:=low_some A f (m+1)
  unfold lowA
  by_cases c:(A m).isSome=true
  . rw [if_pos c];exact ⟨by omega,by omega,fun h=>q.2.2 (by omega)⟩
  . rw [if_neg c];exact ⟨by omega,by omega,fun _=>by simpa using c⟩
theorem go12 (h:Inv rk s) (ht:Cn t s.I) (t60:t<=60) (hi:i<16) (hP:s.A i=some P) (c:Ca.Cl) (hop:c.op=12):Go' rk t i c s false:=by
 obtain ⟨l1,l2,l3⟩:=low_some s.A 16 0
 obtain ⟨p,hp⟩: ∃ p,lowA s.A 0 16=p:=⟨_,rfl⟩
 rw [hp] at l2 l3
 by_cases p16:p<16
 . have hA:=l3 (by omega)
   by_cases hc:Qo.childN s.T P.k c.id=0
   . obtain ⟨oi,hoi⟩: ∃ oi,Qo.childI s.T P.k c.id=oi:=⟨_,rfl⟩
     by_cases hm:Qo.mayN (Qo.childT s.T P.k c.id) oi 1=0
     . exact Go'.to (h.spawn (by rw [hP];simp) p16 hA oi _ (tk30 ht t60) (h.inw.acc.spawn hc hoi hm p _ rfl rfl rfl rfl)) ht _ _ _ _ _ (fun M root=>srv12 M root hi c hop s hP p hp p16 hA h.inw.good hc oi hoi hm)
     . exact Go'.to (s':={ s with T:=Qo.endT (Qo.childT s.T P.k c.id) oi }) ⟨⟨h.inw.good,h.inw.who,h.inw.top,h.inw.zero,h.inw.pok,h.inw.gok,h.inw.par,h.inw.acc.tried hc hoi⟩,h.par,h.tok⟩ ht _ _ _ _ _ (fun M root=>srv12_charge M root hi c hop s hP p hp p16 hc oi hoi _ hm rfl)
   . exact Go'.same h ht _ _ _ _ _ (fun M root=>srv12_child M root hi c hop s hP p hp p16 _ hc rfl)
 . exact Go'.same h ht _ _ _ _ _ (fun M root=>srv12_big M root hi c hop s hP (by omega))
end
theorem go_any {rk:Nat->Nat} {t i:Nat} {s:Sa} (h:Inv rk s) (ht:Cn t s.I) (t60:t<=60) (hi:i<16) (hn:s.A i≠none) {W:Ca.Wd} (hw:W.wf) {c:Ca.Cl} {n:Nat} (hc:Ca.Case W c n) (t59:c.op=7->t<=59):Go' rk t i c s (decide (c.op=6\/c.op=7)):=by
 obtain ⟨P,hP⟩:=Option.ne_none_iff_exists'.1 hn
 have w0:=hw 0;have w1:=hw 1;have w2:=hw 2;have w3:=hw 3
 cases hc with
 | o1 h0 h1 h2 => exact go1 h ht (by omega) hi hP _ rfl
 | o2 h0 h1 => exact go2 h ht (by omega) hi hP _ rfl
 | o3 h0 h1 h2 => exact go3 h ht (by omega) hi hP _ rfl
 | o4 h0 h1 => obtain ⟨b1, b2, b3⟩ := h1; exact go4 h ht (by omega) hi hP _ rfl w1.1 b1 w2.1 (by show W.at 2 ≤ 8; omega) (by show W.at 1 % 4096 + W.at 2 ≤ 4096; rcases b2 with e | e | e | e <;> rw [e] at b3 ⊢ <;> omega)
 | o6 h0 h1 h2 h3 => exact go6 h ht hi hP _ rfl (W.at 2).toNat (by show W.at 2 = _; omega) (by omega) w1.1 h1
 | o7 h0 h1 h2 => exact go7 h ht (t59 rfl) hi hP _ rfl
 | o8 h0 h1 => exact go8 h ht hi _ rfl
 | o9 h0 h1 => exact go9 h ht hi _ rfl
 | o10 h0 h1 => exact go10 h ht hi hP _ rfl ⟨w1.1, by show W.at 1 < _; omega⟩
 | o11 h0 => exact go11 h ht hi hP _ rfl
 | o12 h0 h1 => exact go12 h ht (by omega) hi hP _ rfl
 | o13 h0 => exact go13 h ht hi hP _ rfl
 | o14 h0 => exact go14 h ht hi _ rfl
 | o15 h0 h1 h2 h3 h4 => exact go15 h ht hi hP _ rfl
 | o16 h0 h1 => exact go16 h ht hi hP _ rfl w2
 | o5 h0 h1 h2 => obtain ⟨b1, b2, b3⟩ := h1; exact go5 h ht (by omega) hi hP _ rfl w1.1 b1 w2.1 (by show W.at 2 ≤ 8; omega) (by show W.at 1 % 4096 + W.at 2 ≤ 4096; rcases b2 with e | e | e | e <;> rw [e] at b3 ⊢ <;> omega) w3.1 w3.2
end
end Go.Proofs.YtokpmclmdobgeaaGreat.Fl
