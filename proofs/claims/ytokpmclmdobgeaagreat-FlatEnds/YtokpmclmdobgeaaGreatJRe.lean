import Derived.Test.YtokpmclmdobgeaaGreatJOe
import Derived.Test.YtokpmclmdobgeaaGreatJWe
import Derived.Test.YtokpmclmdobgeaaGreatJBe
import Derived.Test.YtokpmclmdobgeaaGreatKZe
import Derived.Test.YtokpmclmdobgeaaGreatJPe
import Derived.Test.YtokpmclmdobgeaaGreatJMe
import Derived.Test.YtokpmclmdobgeaaGreatJHe
set_option linter.unusedSimpArgs false
set_option linter.unusedVariables false
set_option maxRecDepth 8000
set_option maxHeartbeats 8000000
open Go.ChangeShapes Go.WideShapes Go.ChangeAt Go.RowKit Go.Maps
namespace Go.Proofs.YtokpmclmdobgeaaGreat.Fl
structure Sa where
 Q:Ca.Qu
 T:Nat->Qo.Nd
 I:Nat->Sh.Gr
 A:Nat->Option Pr
 B:Nat->Nat->Int
 nx:Nat
structure Ab (ρ :Nat->Nat) (R P:Pr):Prop where
 par:R.par=P.par
 k:R.k=P.k
 st:R.st=P.st
 L:R.L=P.L
 G:R.G=P.G
 F: ∀ p,R.F p=(P.F p).map ρ
def AbA (ρ :Nat->Nat) (A A':Nat->Option Pr):Prop:= ∀ j,(A j=none/\A' j=none)\/ ∃ R P,A j=some R/\A' j=some P/\Ab ρ R P
structure Nm (O:Nat->Nat) (ρ :Nat->Nat) (B:Nat->Nat->Int) (s:Sa):Prop where
 inj: ∀ c c',c<s.nx->c'<s.nx-> ρ c= ρ c'->c=c'
 nine: ∀ c,c<s.nx->O (ρ c)=9/\B (ρ c)=s.B c
 used: ∀ j P p c,s.A j=some P->P.F p=some c->c<s.nx
def Is (O:Nat->Nat) (n:Nat) (W:World) (M:Mb) (root:Int) (s:Sa):Prop:= ∃ A B ρ,Mn O n W M s.Q s.T root s.I A B/\AbA ρ A s.A/\Nm O ρ B s
theorem AbA.at {ρ :Nat->Nat} {A A':Nat->Option Pr} (e:AbA ρ A A') {i:Nat} {P:Pr} (h:A' i=some P): ∃ R,A i=some R/\Ab ρ R P:=by
 rcases e i with ⟨_,h2⟩ | ⟨R,P',h1,h2,h3⟩
 . rw [h] at h2;cases h2
 . rw [h] at h2;cases h2;exact ⟨R,h1,h3⟩
theorem AbA.nobody {ρ :Nat->Nat} {A A':Nat->Option Pr} (e:AbA ρ A A') {i:Nat} (h:A' i=none):A i=none:=by
 rcases e i with ⟨h1,_⟩ | ⟨R,P',_,h2,_⟩
 . exact h1
 . rw [h] at h2;cases h2
theorem AbA.set {ρ :Nat->Nat} {A A':Nat->Option Pr} (e:AbA ρ A A') (i:Nat) {R P:Pr} (h:Ab ρ R P):AbA ρ (setA A i (some R)) (setA A' i (some P)):=fun j=>by
 by_cases c:j=i
 . subst c;exact Or.inr ⟨R,P,setA_same _ _ _,setA_same _ _ _,h⟩
 . rw [setA_other _ _ _ _ c,setA_other _ _ _ _ c];exact e j
theorem AbA.del {ρ :Nat->Nat} {A A':Nat->Option Pr} (e:AbA ρ A A') (i:Nat):AbA ρ (setA A i none) (setA A' i none):=fun j=>by
 by_cases c:j=i
 . subst c;exact Or.inl ⟨setA_same _ _ _,setA_same _ _ _⟩
 . rw [setA_other _ _ _ _ c,setA_other _ _ _ _ c];exact e j
theorem AbA.kid {ρ :Nat->Nat} {A A':Nat->Option Pr} (e:AbA ρ A A') (pd:Int) (j:Nat):isKid A pd j=isKid A' pd j:=by
 unfold isKid
 rcases e j with ⟨h1,h2⟩ | ⟨R,P,h1,h2,h3⟩
 . rw [h1,h2]
 . rw [h1,h2];show (R.par==pd)=(P.par==pd);rw [h3.par]
theorem AbA.child {ρ :Nat->Nat} {A A':Nat->Option Pr} (e:AbA ρ A A') (pd:Int): ∀ m,childL A pd m=childL A' pd m
 | 0 => rfl
 | m + 1 => by rw [childL, childL, e.child pd m, e.kid]
section
variable {O:Nat->Nat} {n:Nat} {W:World} {M:Mb} {Q:Ca.Qu} {T:Nat->Qo.Nd} {root:Int} {I:Nat->Sh.Gr} {A:Nat->Option Pr} {B:Nat->Nat->Int}
theorem Mn.more (h:Mn O n W M Q T root I A B) {n':Nat} (hn:n<=n'):Mn O n' W M Q T root I A B :=
 ⟨h.mod,h.que,h.tre,h.goo,h.gra,h.prm.more hn,fun i P hi e=>(h.prs i P hi e).keep hn (Nat.le_refl _) (fun _ _=>rfl) (fun _ _ _=>rfl),h.pag,h.o1,h.o2,h.o3,h.o4,h.lt⟩
theorem used_set {A:Nat->Option Pr} {nx:Nat} (h: ∀ j P p c,A j=some P->P.F p=some c->c<nx) (d:Nat) (P':Pr) (hP: ∀ p c,P'.F p=some c->c<nx): ∀ j P p c,setA A d (some P') j=some P->P.F p=some c->c<nx:=fun j P p c h1 h2=>by
 by_cases e:j=d
 . subst e;rw [setA_same] at h1;cases h1;exact hP p c h2
 . rw [setA_other _ _ _ _ e] at h1;exact h j P p c h1 h2
theorem used_del {A:Nat->Option Pr} {nx:Nat} (h: ∀ j P p c,A j=some P->P.F p=some c->c<nx) (d:Nat): ∀ j P p c,setA A d none j=some P->P.F p=some c->c<nx:=fun j P p c h1 h2=>by
 by_cases e:j=d
 . subst e;rw [setA_same] at h1;cases h1
 . rw [setA_other _ _ _ _ e] at h1;exact h j P p c h1 h2
theorem put_none {F:Int->Option Nat} {a p:Int} {c:Nat} (h:put F a none p=some c):F p=some c:=by
 unfold put at h
 split at h
 . cases h
 . exact h
theorem Nm.keep {O O':Nat->Nat} {ρ :Nat->Nat} {B:Nat->Nat->Int} {s s':Sa} (h:Nm O ρ B s) (hO: ∀ j,O j≠0->O' j=O j) (hn:s'.nx=s.nx) (hB:s'.B=s.B) (hu: ∀ j P p c,s'.A j=some P->P.F p=some c->c<s.nx):Nm O' ρ B s' :=
 ⟨fun c c' h1 h2=>h.inj c c' (hn ▸ h1) (hn ▸ h2),fun c hc=>by have q:=h.nine c (hn ▸ hc);exact ⟨(hO _ (by rw [q.1];omega)).trans q.1,by rw [hB];exact q.2⟩,fun j P p c h1 h2=>by rw [hn];exact hu j P p c h1 h2⟩
section
variable {O:Nat->Nat} {n:Nat} {W:World} {M:Mb} {root:Int} {s:Sa}
theorem Is.more (h:Is O n W M root s) {n':Nat} (hn:n<=n'):Is O n' W M root s:=by obtain ⟨A,B,ρ,m,e⟩:=h;exact ⟨A,B,ρ,m.more hn,e⟩
theorem Is.below (h:Is O n W M root s) {V:World} (hb:bc W V):Is O n V M root s:=by obtain ⟨A,B,ρ,m,e⟩:=h;exact ⟨A,B,ρ,m.below hb,e⟩
theorem Is.lt (h:Is O n W M root s): ∀ j,O j≠0->j<W.heap.size:=by obtain ⟨A,B,ρ,m,e⟩:=h;exact m.lt
theorem Is.sta (n:Nat) (M:Mb) (root:Int) (s:Sa):Sta (fun O w=>Is O n w M root s):=fun O V V' h hs hk=>by obtain ⟨A,B,ρ,m,e⟩:=h;exact ⟨A,B,ρ,m.keep hs hk,e⟩
end
def fstR (L:List Re.Rg) (a:Int):Nat:=L.findIdx (fun r=>hasR r a)
def giveS (s:Sa) (g:Sh.Gr):Sa:=if g.tk=true then match s.A g.dst.toNat with
 | none => s
 | some P => { s with T := Qo.creditT s.T P.k (costD 0 (g.att / 512) (g.att / 262144) (g.att / 134217728) P.G 3), A := setA s.A g.dst.toNat (some { P with F := put P.F g.att none, G := sinkN (g.att / 512) (g.att / 262144) (g.att / 134217728) P.G 3, L := wout P.L g.att (fstR P.L g.att) }) } else s
def GiveOk (s:Sa) (g:Sh.Gr):Prop:=g.tk=true-> ∃ (d:Nat) (P:Pr),g.dst=d/\d<16/\s.A d=some P/\Given P g.att (fstR P.L g.att)
def giveAll (L:List Sh.Gr) (s:Sa):Sa:=L.foldl giveS s
def GivesOk:List Sh.Gr->Sa->Prop
 | [], _ => True
 | g :: r, s => GiveOk s g ∧ GivesOk r (giveS s g)
theorem Given.of_eq {P R:Pr} {a:Int} {i:Nat} (h:Given P a i) (hG:R.G=P.G) (hL:R.L=P.L):Given R a i:=by
 refine ⟨h.a0,h.a1,?_,?_,?_,?_,?_,?_,?_⟩
 . rw [hG];exact h.way
 . rw [hL];exact h.lt
 . rw [hL];exact h.has
 . rw [hL];exact h.fst
 . rw [hL];exact h.good
 . rw [hL];exact h.cut
 . rw [hL];exact h.few
theorem put_map (ρ :Nat->Nat) {F F':Int->Option Nat} (h: ∀ p,F p=(F' p).map ρ) (a:Int) (o o':Option Nat) (e:o=o'.map ρ) (p:Int):put F a o p=(put F' a o' p).map ρ :=by
 unfold put
 split
 . exact e
 . exact h p
theorem give_at (s:Sa) {g:Sh.Gr} {d:Nat} {P:Pr} (ht:g.tk=true) (hd:g.dst=(d:Int)) (hP:s.A d=some P):giveS s g={ s with T:=Qo.creditT s.T P.k (costD 0 (g.att / 512) (g.att / 262144) (g.att / 134217728) P.G 3),A:=setA s.A d (some { P with F:=put P.F g.att none,G:=sinkN (g.att / 512) (g.att / 262144) (g.att / 134217728) P.G 3,L:=wout P.L g.att (fstR P.L g.att) }) }:=by
 unfold giveS
 rw [if_pos ht,hd]
 show (match s.A ((d:Int)).toNat with | none=>_ | some P=>_)=_
 rw [show ((d:Int)).toNat=d from Int.toNat_natCast d,hP]
theorem give_no (s:Sa) {g:Sh.Gr} (ht:g.tk=false):giveS s g=s:=by unfold giveS;rw [if_neg (by rw [ht];simp)]
theorem Is.give {O:Nat->Nat} {n:Nat} {W:World} {M:Mb} {root:Int} {s:Sa} (h:Is O n W M root s) (g:Sh.Gr) (hg:GiveOk s g) (hn:n<900000000000) :
 Calls Tryz.prog 88 #[pp M.mb,g.val] W fun e w'=>e=.returned (.tuple #[])/\Tx O W (fun O' V=>Is O' (n+6) V M root (giveS s g)) w':=by
 obtain ⟨gf,gp,gd,gw,tk,ga⟩:=g
 obtain ⟨A,B,ρ,m,ab,nm⟩:=h
 cases tk with
 | false =>
  refine Calls.mono (giveBack_none M.mb gf gp gd ga gw) ?_
  rintro e2 w' ⟨rfl,hb⟩
  rw [give_no s rfl]
  exact ⟨rfl,O,⟨A,B,ρ,(m.below hb).more (by omega),ab,nm⟩,fun _ _=>rfl,(m.below hb).lt,Ko.of_below hb⟩
 | true =>
  obtain ⟨d,P,hd,d16,hP,hG⟩:=hg rfl
  obtain ⟨R,hR,hab⟩:=ab.at hP
  have hd:gd=(d:Int):=hd
  subst hd
  refine Calls.mono (m.giveBack d16 hR gf gp ga gw (fstR P.L ga) (hG.of_eq hab.G hab.L) hn) ?_
  rintro e2 w' ⟨rfl,p',c',O',m',e1,e3,k⟩
  rw [give_at s (g:=⟨gf,gp,d,gw,true,ga⟩) rfl rfl hP]
  rw [hab.k,hab.G,hab.L] at m'
  refine ⟨rfl,O',⟨_,B,ρ,m',ab.set d ?_,nm.keep (fun j hj=>e1 j (m.lt j hj)) rfl rfl ?_⟩,e1,m'.lt,k⟩
  . exact ⟨hab.par,rfl,hab.st,rfl,rfl,fun p=>put_map ρ hab.F ga none none rfl p⟩
  . exact used_set nm.used d _ fun p c hc=>nm.used d P p c hP (put_none hc)
def clrI (s:Sa) (i:Nat):Sa:={ s with I:=Sh.clrL s.I (Sh.ofL s.I (i:Nat) 256) }
def goneI (s:Sa) (i:Nat):List Sh.Gr:=Sh.goneL s.I (Sh.ofL s.I (i:Nat) 256)
def RowG (w:World) (base:Nat) (p:Option Addr) (L:List Sh.Gr):Prop:= ∀ i,i<L.length-> ∃ g,p=some ⟨g,0,none⟩/\base<=g/\g<w.heap.size/\ ∀ j x,(L.getD i Sh.Gr.zero).enc[j]? =some x->w.cell? ⟨g,i*6+j,none⟩=some x
theorem encL_get: ∀ (L:List Sh.Gr) (i j:Nat),i<L.length->j<6->(Sh.encL L)[i*6+j]? =(L.getD i Sh.Gr.zero).enc[j]?
 | [], i, j, h, _ => absurd h (Nat.not_lt_zero _)
 | x :: r, 0, j, h, hj => by
  show (x.enc++Sh.encL r)[0*6+j]? =x.enc[j]?
  rw [List.getElem?_append_left (by show 0*6+j<6;omega),show 0*6+j=j by omega]
 | x :: r, i + 1, j, h, hj => by
  show (x.enc++Sh.encL r)[(i+1)*6+j]? =((x::r).getD (i+1) Sh.Gr.zero).enc[j]?
  rw [List.getElem?_append_right (by show 6<=_;omega),show (i+1)*6+j-x.enc.length=i*6+j by (show (i+1)*6+j-6=_;omega),encL_get r i j (by simpa using h) hj]
  simp
theorem rowG_read {w:World} {base:Nat} {v:Value} {L:List Sh.Gr} (h:w.ownsRow base 55 6 v L.length (Sh.encL L)): ∃ p c,v=.slice p L.length c/\RowG w base p L:=by
 have hc:=fun g (hg:v.ownBlock=some g)=>h.cells (g:=g) hg
 obtain ⟨hl,⟨hv,h0⟩ | ⟨g,cap,cur,hv,hb,hblk,_⟩⟩:=h
 . exact ⟨none,0,by rw [hv,h0],fun i hi=>absurd hi (by omega)⟩
 . refine ⟨_,_,hv,fun i hi=>⟨g,rfl,hb,(Array.getElem?_eq_some_iff.1 hblk).1,fun j x hx=> ?_⟩⟩
   have hj:j<6:=(List.getElem?_eq_some_iff.1 hx).1
   have:=hc g (by rw [hv];rfl) (i*6+j) x (by rw [encL_get L i j hi hj];exact hx)
   have e:(Addr.add ⟨g,0,none⟩ (i*6+j))=⟨g,i*6+j,none⟩:=by
    unfold Addr.add
    by_cases q:i*6+j=0
    . rw [if_pos q,q]
    . rw [if_neg q];simp
   rw [e] at this;exact this
theorem Is.clear {O:Nat->Nat} {n:Nat} {W:World} {M:Mb} {root:Int} {s:Sa} (h:Is O n W M root s) (i:Nat) :
 Calls Tryz.prog 106 #[.pointer (some ⟨M.mb,2,none⟩),.int .i64 (i:Nat)] W fun e w'=>(∃ p c,e=.returned (.slice p (goneI s i).length c)/\RowG w' W.heap.size p (goneI s i))/\Is O n w' M root (clrI s i)/\Ko O W w':=by
 obtain ⟨A,B,ρ,m,ab,nm⟩:=h
 have q:=Sh.clear_any M.mb s.I (i:Nat) W m.gra
 unfold goneI clrI
 generalize Sh.ofL s.I (i:Nat) 256=LL at q |-
 refine Calls.mono q ?_
 rintro e2 w' ⟨v,rfl,hr,ht,hg⟩
 have ln:(Sh.goneL s.I LL).length=LL.length:=Sh.gone_len _ _
 obtain ⟨p,c,hv,hrow⟩:=rowG_read (L:=Sh.goneL s.I LL) (by rw [ln];exact hr)
 have MG:=m.grants ht hg
 exact ⟨⟨p,c,by rw [hv],hrow⟩,⟨A,B,ρ,MG.1,ab,nm.inj,nm.nine,nm.used⟩,MG.2⟩
theorem prF_del (A:Nat->Option Pr) (i:Nat):prF (setA A i none)=put (prF A) (i:Nat) none:=by
 funext j
 unfold put
 by_cases e:j=(i:Nat)
 . subst e;rw [if_pos rfl,prF_nat];split
   . rw [setA_same];rfl
   . rfl
 . rw [if_neg e]
   unfold prF
   by_cases c:0<=j/\j<16
   . rw [if_pos c,if_pos c,setA_other _ _ _ _ (by omega)]
   . rw [if_neg c,if_neg c]
theorem Mn.gone (h:Mn O n W M Q T root I A B) (i:Nat) {U:World} (hm:MapF U M.pm n (put (prF A) (i:Nat) none)) (hg:W.grownBy U (some M.pm)):Mn O n U M Q T root I (setA A i none) B/\Ko O W U:=by
 have k: ∀ j,O j≠0->O j≠4->U.heap[j]? =W.heap[j]? :=fun j h0 h1=>hg.block j (h.lt j h0) (fun e=>h1 (by rw [sia e];exact h.o4))
 refine ⟨⟨h.mod.block hg.size (k _ kn1 kn1),h.que.kept fun _=>k _ kp1 kp1,tree_block h.tre hg.size (k _ (by rw [h.o3];omega) (by rw [h.o3];omega)),h.goo,tab_block h.gra hg.size (k _ kn1 kn1),by rw [prF_del];exact hm,fun j P hj e=> ?_,fun c hc=>⟨page_block (h.pag c hc).1 (k c (by omega) (by omega)),(h.pag c hc).2⟩,h.o1,h.o2,h.o3,h.o4,fun j hj=>nla (h.lt j hj) hg.size⟩,kept_grown hg fun j hj=>⟨fun e=>by have:=hj.1;rw [e,h.o4] at this;omega,hj.2⟩⟩
 by_cases c:j=i
 . subst c;rw [setA_same] at e;cases e
 . rw [setA_other _ _ _ _ c] at e
   exact (h.prs j P hj e).keep (Nat.le_refl _) hg.size (fun _ _=>rfl) (fun j h1 h2=>k j (by omega) (by omega))
def finS (s:Sa) (i:Nat):Sa:=match s.A i with
 | none => s
 | some P => ⟨Ca.remS s.Q (i : Nat), Qo.endT (Qo.creditT s.T P.k (Qo.getN s.T P.k).used) P.k, s.I, setA s.A i none, s.B, s.nx⟩
def runS (f:Nat->Sa->Sa):List Nat->Sa->Sa
 | [], s => s
 | c :: r, s => runS f r (f c s)
def runK (f:Nat->Sa->Sa) (k:Nat->Sa->Nat):List Nat->Sa->Nat
 | [], _ => 0
 | c :: r, s => k c s + runK f k r (f c s)
def RunOk (f:Nat->Sa->Sa) (ok:Nat->Sa->Prop):List Nat->Sa->Prop
 | [], _ => True
 | c :: r, s => ok c s ∧ RunOk f ok r (f c s)
def giveI (s:Sa) (i:Nat):Sa:=giveAll (goneI s i) (clrI s i)
def endS:Nat->Nat->Sa->Sa
 | 0, _, s => s
 | f + 1, i, s => finS (giveI (runS (endS f) (childL s.A (i : Nat) 16) s) i) i
def endK:Nat->Nat->Sa->Nat
 | 0, _, _ => 0
 | f + 1, i, s => runK (endS f) (endK f) (childL s.A (i : Nat) 16) s + (goneI (runS (endS f) (childL s.A (i : Nat) 16) s) i).length
def EndOk:Nat->Nat->Sa->Prop
 | 0, _, _ => False
 | f + 1, i, s => RunOk (endS f) (fun c s => c < 16 ∧ EndOk f c s) (childL s.A (i : Nat) 16) s ∧ GivesOk (goneI (runS (endS f) (childL s.A (i : Nat) 16) s) i) (clrI (runS (endS f) (childL s.A (i : Nat) 16) s) i) ∧ (∃ P, (giveI (runS (endS f) (childL s.A (i : Nat) 16) s) i).A i = some P) ∧ Ca.Good (giveI (runS (endS f) (childL s.A (i : Nat) 16) s) i).Q
theorem row_ko {O:Nat->Nat} {V1 V:World} {base:Nat} {p:Option Addr} {L:List Nat} (h:Sh.IsRow V1 base p L) (k:Ko O V1 V) (ob: ∀ b,base<=b->O b=0):Sh.IsRow V base p L:=fun i hi=>by
 obtain ⟨g,e,l1,l2,c⟩:=h i hi
 exact ⟨g,e,l1,nla l2 k.size,(World.cell?_of_block (k.block g ⟨ob g l1,l2⟩)).trans c⟩
theorem rowG_ko {O:Nat->Nat} {V1 V:World} {base:Nat} {p:Option Addr} {L:List Sh.Gr} (h:RowG V1 base p L) (k:Ko O V1 V) (ob: ∀ b,base<=b->O b=0):RowG V base p L:=fun i hi=>by
 obtain ⟨g,e,l1,l2,c⟩:=h i hi
 exact ⟨g,e,l1,nla l2 k.size,fun j x hx=>(World.cell?_of_block (k.block g ⟨ob g l1,l2⟩)).trans (c j x hx)⟩
theorem drop_cons {α :Type} (L:List α) (d: α) (k:Nat) (h:k<L.length):L.drop k=L.getD k d::L.drop (k+1):=by
 rw [List.drop_eq_getElem_cons h,List.getD_eq_getElem?_getD,List.getElem?_eq_getElem h];rfl
set_option linter.constructorNameAsVariable false in
theorem end_step (f:Nat) (IH: ∀ (c:Nat) (s:Sa),c<16->EndOk f c s-> ∀ (O:Nat->Nat) (n:Nat) (W:World) (M:Mb) (root:Int),Is O n W M root s->n+6*endK f c s<900000000000->Calls Tryz.prog 89 #[pp M.mb,.int .i64 (c:Nat)] W fun e w'=>e=.returned (.tuple #[])/\Tx O W (fun O' V=>Is O' (n+6*endK f c s) V M root (endS f c s)) w') (i:Nat) (s:Sa) (hi:i<16) (ok:EndOk (f+1) i s): ∀ (O:Nat->Nat) (n:Nat) (W:World) (M:Mb) (root:Int),Is O n W M root s->n+6*endK (f+1) i s<900000000000->Calls Tryz.prog 89 #[pp M.mb,.int .i64 (i:Nat)] W fun e w'=>e=.returned (.tuple #[])/\Tx O W (fun O' V=>Is O' (n+6*endK (f+1) i s) V M root (endS (f+1) i s)) w':=by
 intro O n W M root h hn
 obtain ⟨ok1,ok2,⟨P2,ok3⟩,ok4⟩:=ok
 obtain ⟨L,hL⟩: ∃ L,childL s.A (i:Nat) 16=L:=⟨_,rfl⟩
 rw [hL] at ok1 ok2 ok3 ok4
 obtain ⟨S1,hS1⟩: ∃ S1,runS (endS f) L s=S1:=⟨_,rfl⟩
 rw [hS1] at ok2 ok3 ok4
 obtain ⟨GL,hGL⟩: ∃ GL,goneI S1 i=GL:=⟨_,rfl⟩
 obtain ⟨S2,hS2⟩: ∃ S2,giveI S1 i=S2:=⟨_,rfl⟩
 rw [hGL] at ok2
 rw [hS2] at ok3 ok4
 obtain ⟨N1,hN1⟩: ∃ N1,n+6*runK (endS f) (endK f) L s=N1:=⟨_,rfl⟩
 obtain ⟨N2,hN2⟩: ∃ N2,N1+6*GL.length=N2:=⟨_,rfl⟩
 have eN:n+6*endK (f+1) i s=N2:=by
  show n+6*(runK (endS f) (endK f) (childL s.A (i:Nat) 16) s+(goneI (runS (endS f) (childL s.A (i:Nat) 16) s) i).length)=N2
  rw [hL,hS1,hGL];omega
 have eS:endS (f+1) i s=finS S2 i:=by
  show finS (giveI (runS (endS f) (childL s.A (i:Nat) 16) s) i) i=_
  rw [hL,hS1,hS2]
 have eG:giveAll GL (clrI S1 i)=S2:=by rw [<- hGL];exact hS2
 rw [eN] at hn |-
 rw [eS]
 obtain ⟨m1,hm1⟩: ∃ m1,L.length=m1:=⟨_,rfl⟩
 obtain ⟨m2,hm2⟩: ∃ m2,GL.length=m2:=⟨_,rfl⟩
 have b1:L.length<=16:=by rw [<- hL];exact child_len _ _ _
 have b2:GL.length<=256:=by
  rw [<- hGL]
  unfold goneI
  rw [Sh.gone_len]
  exact Sh.of_len _ _ _
 have BD:Hid (m1<=16/\m2<=256):=⟨by omega,by omega⟩
 have OB:Hid (∀ b,W.heap.size<=b->O b=0):=fun b hb=>bca fun hh=>by have:=h.lt b hh;omega
 have HS:Hid (Is O n W M root s):=h
 have HN:Hid (N2<900000000000/\N1+6*m2=N2):=⟨hn,by omega⟩
 have O1k:Hid (RunOk (endS f) (fun c s=>c<16/\EndOk f c s) L s/\runS (endS f) L s=S1/\n+6*runK (endS f) (endK f) L s=N1):=⟨ok1,hS1,hN1⟩
 have O2k:Hid (GivesOk GL (clrI S1 i)/\giveAll GL (clrI S1 i)=S2):=⟨ok2,eG⟩
 have O3k:Hid (i<16/\S2.A i=some P2/\Ca.Good S2.Q):=⟨hi,ok3,ok4⟩
 have IHH:Hid _:=IH
 have LE:Hid (L.length=m1/\GL.length=m2):=⟨hm1,hm2⟩
 have CHC:Hid (Calls Tryz.prog 105 #[pp M.mb,.int .i64 (i:Nat)] W fun e w'=>(∃ q c,e=.returned (.slice q m1 c)/\Sh.IsRow w' W.heap.size q L)/\bc W w'):=by
  obtain ⟨A,B,ρ,mm,ab,nm⟩:=h
  have q:=mm.children (i:Nat)
  rw [ab.child,hL,hm1] at q
  exact q
 have GLE:Hid (goneI S1 i=GL):=hGL
 clear h hn ok1 ok2 ok3 ok4 hL hS1 hGL hS2 hN1 hN2 eN eS eG hm1 hm2 hi IH b1 b2
 have m116:(m1:Int)<1000000\/True:=Or.inr trivial
 clear m116
 go_enter Tryz.func89,Tryz.ntmps89
 go_wp2_with fail
 refine Calls.mono CHC.out ?_
 rintro e V1 ⟨⟨q1,c1,rfl,hr1⟩,hb1⟩
 have G1:Hid (bc W V1/\Sh.IsRow V1 W.heap.size q1 L):=⟨hb1,hr1⟩
 clear hb1 hr1 CHC
 go_wp2_with fail
 go_loopw [13] (fun x V=> ∃ k:Nat,k<=m1/\x=.int .i64 (k:Nat)/\Hid (Tx O V1 (fun O' V=> ∃ s' n',Is O' n' V M root s'/\RunOk (endS f) (fun c s=>c<16/\EndOk f c s) (L.drop k) s'/\runS (endS f) (L.drop k) s'=S1/\n'+6*runK (endS f) (endK f) (L.drop k) s'=N1) V)) (fun x _=>m1-(intOf x).toNat)
 case atStart=>exact ⟨0,by omega,rfl,O,⟨s,n,HS.out.below G1.out.1,O1k.out.1,O1k.out.2.1,O1k.out.2.2⟩,fun _ _=>rfl,(HS.out.below G1.out.1).lt,Ko.of_below (Below.refl _ _)⟩
 case round =>
  obtain ⟨k,hk,rfl,hst⟩:=hrel
  have ww:IntKind.i64.wrap ((k:Int)+1)=((k+1:Nat):Int):=by have:=BD.out;simp only [IntKind.wrap_i64];omega
  by_cases hlt:k<m1
  . have hd:decide ((k:Int)<(m1:Int))=true:=by simp;omega
    have hl:k<L.length:=by rw [LE.out.1];exact hlt
    obtain ⟨g,rfl,_,lg,cc⟩:=(row_ko G1.out.2 hst.out.choose_spec.2.2.2 OB.out) k hl
    obtain ⟨c,hc⟩: ∃ c,L.getD k 0=c:=⟨_,rfl⟩
    rw [hc] at cc
    have HC:Hid (L.drop k=c::L.drop (k+1)):=by
     have:=drop_cons L 0 k hl
     rw [hc] at this;exact this
    clear hc hl
    obtain ⟨O',⟨s',n',his,hok,hrun,hkk⟩,e1,lt1,ko⟩:=hst.out
    rw [HC.out] at hok hrun hkk
    have hkk2:n'+6*(endK f c s'+runK (endS f) (endK f) (L.drop (k+1)) (endS f c s'))=N1:=hkk
    have CE:Hid (Calls Tryz.prog 89 #[pp M.mb,.int .i64 (c:Nat)] wr fun e w'=>e=.returned (.tuple #[])/\Tx O' wr (fun O' V=>Is O' (n'+6*endK f c s') V M root (endS f c s')) w'):=IHH.out c s' hok.1.1 hok.1.2 O' n' wr M root his (by have:=HN.out;omega)
    have H2:Hid (RunOk (endS f) (fun c s=>c<16/\EndOk f c s) (L.drop (k+1)) (endS f c s')/\runS (endS f) (L.drop (k+1)) (endS f c s')=S1/\(n'+6*endK f c s')+6*runK (endS f) (endK f) (L.drop (k+1)) (endS f c s')=N1):=⟨hok.2,hrun,by omega⟩
    have H3:Hid ((∀ j,j<V1.heap.size->O' j=O j)/\Ko O V1 wr):=⟨e1,ko⟩
    clear his hok hrun hkk hkk2 e1 lt1 ko hst HC
    go_wp2_with fail
    refine Calls.mono CE.out ?_
    rintro e u ⟨rfl,hx⟩
    have HE:Hid (Tx O V1 (fun O' V=> ∃ s' n',Is O' n' V M root s'/\RunOk (endS f) (fun c s=>c<16/\EndOk f c s) (L.drop (k+1)) s'/\runS (endS f) (L.drop (k+1)) s'=S1/\n'+6*runK (endS f) (endK f) (L.drop (k+1)) s'=N1) u):=by
     obtain ⟨O3,i3,e3,lt3,k3⟩:=hx
     exact ⟨O3,⟨_,_,i3,H2.out.1,H2.out.2.1,H2.out.2.2⟩,fun j hj=>(e3 j (nla hj H3.out.2.size)).trans (H3.out.1 j hj),lt3,H3.out.2.trans (k3.sub fun j hj=>⟨(H3.out.1 j hj.2).trans hj.1,nla hj.2 H3.out.2.size⟩)⟩
    clear hx CE H2 H3 lg cc
    go_wp2_with fail
    go_roundw
    case rel=>exact ⟨k+1,by omega,by go_num,HE.out⟩
    case measure=>simp [intOf];omega
  . obtain rfl:k=m1:=by omega
    have hd:decide ((k:Int)<(k:Int))=false:=by simp
    obtain ⟨O1,⟨s',n',his,_,hrun,hkk⟩,e1,lt1,ko⟩:=hst.out
    rw [<- LE.out.1,List.drop_length] at hrun hkk
    have hrun2:s'=S1:=hrun
    have hkk2:n'=N1:=by have:n'+6*0=N1:=hkk;omega
    subst hrun2 hkk2
    have I1:Hid (Is O1 n' wr M root s'):=his
    have KK:Hid ((∀ j,j<W.heap.size->O1 j=O j)/\Ko O W wr/\W.heap.size<=wr.heap.size):=⟨fun j hj=>e1 j (nla hj G1.out.1.size),(Ko.of_below G1.out.1).trans (ko.sub fun j hj=>⟨hj.1,nla hj.2 G1.out.1.size⟩),Nat.le_trans G1.out.1.size ko.size⟩
    have OB1:Hid (∀ b,wr.heap.size<=b->O1 b=0):=fun b hb=>bca fun hh=>by have:=lt1 b hh;omega
    have CLC:Hid (Calls Tryz.prog 106 #[.pointer (some ⟨M.mb,2,none⟩),.int .i64 (i:Nat)] wr fun e w'=>(∃ p c,e=.returned (.slice p m2 c)/\RowG w' wr.heap.size p GL)/\Is O1 n' w' M root (clrI s' i)/\Ko O1 wr w'):=by
     have q:=his.clear i
     rw [GLE.out,LE.out.2] at q;exact q
    clear his hrun hkk e1 lt1 ko hst G1 IHH O1k HS
    go_wp2_with fail
    refine Calls.mono CLC.out ?_
    rintro e V2 ⟨⟨p2,c2,rfl,hrow⟩,is2,ko2⟩
    have G2:Hid (RowG V2 wr.heap.size p2 GL/\Is O1 n' V2 M root (clrI s' i)):=⟨hrow,is2⟩
    have KK2:Hid ((∀ j,j<W.heap.size->O1 j=O j)/\Ko O W V2/\W.heap.size<=V2.heap.size):=⟨KK.out.1,KK.out.2.1.trans (ko2.sub fun j hj=>⟨(KK.out.1 j hj.2).trans hj.1,nla hj.2 KK.out.2.2⟩),Nat.le_trans KK.out.2.2 ko2.size⟩
    clear hrow is2 ko2 CLC I1 KK
    generalize wr.heap.size=wz at OB1 G2
    go_wp2_with fail
    go_loopw [27] (fun x V=> ∃ k:Nat,k<=m2/\x=.int .i64 (k:Nat)/\Hid (Tx O1 V2 (fun O' V=> ∃ s' n',Is O' n' V M root s'/\GivesOk (GL.drop k) s'/\giveAll (GL.drop k) s'=S2/\n'+6*(m2-k)=N2) V)) (fun x _=>m2-(intOf x).toNat)
    case atStart=>exact ⟨0,by omega,rfl,O1,⟨_,n',G2.out.2,O2k.out.1,O2k.out.2,HN.out.2⟩,fun _ _=>rfl,G2.out.2.lt,Ko.of_below (Below.refl _ _)⟩
    case round =>
     obtain ⟨j,hj,rfl,hst⟩:=hrel
     have wv:IntKind.i64.wrap ((j:Int)+1)=((j+1:Nat):Int):=by have:=BD.out;simp only [IntKind.wrap_i64];omega
     by_cases hlt:j<m2
     . have hd2:decide ((j:Int)<(m2:Int))=true:=by simp;omega
       have hl:j<GL.length:=by rw [LE.out.2];exact hlt
       obtain ⟨g,rfl,_,lg,cc⟩:=(rowG_ko G2.out.1 hst.out.choose_spec.2.2.2 OB1.out) j hl
       obtain ⟨gr,hgr⟩: ∃ gr,GL.getD j Sh.Gr.zero=gr:=⟨_,rfl⟩
       rw [hgr] at cc
       have HC:=drop_cons GL Sh.Gr.zero j hl
       rw [hgr] at HC
       have HC:Hid (GL.drop j=gr::GL.drop (j+1)):=HC
       obtain ⟨gf,gp,gd,gw,gt,ga⟩:=gr
       have c0:wr.cell? ⟨g,j*6,none⟩=some (.int .i64 gf):=cc 0 _ rfl
       have c1:wr.cell? ⟨g,j*6+1,none⟩=some (.int .i64 gp):=cc 1 _ rfl
       have c2:wr.cell? ⟨g,j*6+2,none⟩=some (.int .i64 gd):=cc 2 _ rfl
       have c3:wr.cell? ⟨g,j*6+3,none⟩=some (.bool gw):=cc 3 _ rfl
       have c4:wr.cell? ⟨g,j*6+4,none⟩=some (.bool gt):=cc 4 _ rfl
       have c5:wr.cell? ⟨g,j*6+5,none⟩=some (.int .i64 ga):=cc 5 _ rfl
       obtain ⟨O',⟨s3,n3,his,hok,hrun,hkk⟩,e1,lt1,ko⟩:=hst.out
       rw [HC.out] at hok hrun
       have H1:Hid (Is O' n3 wr M root s3/\GiveOk s3 ⟨gf,gp,gd,gw,gt,ga⟩/\n3<900000000000):=⟨his,hok.1,by have:=HN.out;omega⟩
       have H2:Hid (GivesOk (GL.drop (j+1)) (giveS s3 ⟨gf,gp,gd,gw,gt,ga⟩)/\giveAll (GL.drop (j+1)) (giveS s3 ⟨gf,gp,gd,gw,gt,ga⟩)=S2/\(n3+6)+6*(m2-(j+1))=N2):=⟨hok.2,hrun,by omega⟩
       have H3:Hid ((∀ j,j<V2.heap.size->O' j=O1 j)/\Ko O1 V2 wr):=⟨e1,ko⟩
       clear cc hgr hl HC his hok hrun hkk e1 lt1 ko hst
       go_upto_region 8 with fail
       have G4:Hid (bc wr (wr.alloc (.cells (sb1 gf gp gd gw gt ga) 55))/\Blk (wr.alloc (.cells (sb1 gf gp gd gw gt ga) 55)) wr.heap.size (sa1 gf gp gd gw gt ga) 55):=⟨baa,Blk.made _ _ _⟩
       clear c0 c1 c2 c3 c4 c5 lg
       generalize (wr.alloc (.cells (sb1 gf gp gd gw gt ga) 55))=V4 at G4 |-
       obtain ⟨q,hq⟩: ∃ q,q=wr.heap.size:=⟨_,rfl⟩
       have G5:Hid (bc wr V4/\Blk V4 q (sa1 gf gp gd gw gt ga) 55):=by rw [hq];exact G4.out
       rw [<- hq]
       clear hq G4
       have z0:V4.cell? ⟨q,0,none⟩=some (.int .i64 gf):=G5.out.2.cell 0
       have z1:V4.cell? ⟨q,1,none⟩=some (.int .i64 gp):=G5.out.2.cell 1
       have z2:V4.cell? ⟨q,2,none⟩=some (.int .i64 gd):=G5.out.2.cell 2
       have z3:V4.cell? ⟨q,3,none⟩=some (.bool gw):=G5.out.2.cell 3
       have z4:V4.cell? ⟨q,4,none⟩=some (.bool gt):=G5.out.2.cell 4
       have z5:V4.cell? ⟨q,5,none⟩=some (.int .i64 ga):=G5.out.2.cell 5
       have GCC:Hid (Calls Tryz.prog 88 #[pp M.mb,.agg (sb1 gf gp gd gw gt ga)] V4 fun e w'=>e=.returned (.tuple #[])/\Tx O' V4 (fun O' V=>Is O' (n3+6) V M root (giveS s3 ⟨gf,gp,gd,gw,gt,ga⟩)) w'):=(H1.out.1.below G5.out.1).give ⟨gf,gp,gd,gw,gt,ga⟩ H1.out.2.1 H1.out.2.2
       go_wp2_with fail
       refine Calls.mono GCC.out ?_
       rintro e u ⟨rfl,hx⟩
       have HE:Hid (Tx O1 V2 (fun O' V=> ∃ s' n',Is O' n' V M root s'/\GivesOk (GL.drop (j+1)) s'/\giveAll (GL.drop (j+1)) s'=S2/\n'+6*(m2-(j+1))=N2) u):=by
        obtain ⟨O3,i3,e3,lt3,k3⟩:=Tx.up G5.out.1 hx
        exact ⟨O3,⟨_,_,i3,H2.out.1,H2.out.2.1,H2.out.2.2⟩,fun b hb=>(e3 b (nla hb H3.out.2.size)).trans (H3.out.1 b hb),lt3,H3.out.2.trans (k3.sub fun b hb=>⟨(H3.out.1 b hb.2).trans hb.1,nla hb.2 H3.out.2.size⟩)⟩
       clear hx GCC H1 H2 H3 G5 z0 z1 z2 z3 z4 z5
       go_wp2_with fail
       go_roundw
       case rel=>exact ⟨j+1,by omega,by go_num,HE.out⟩
       case measure=>simp [intOf];omega
     obtain rfl:j=m2:=by omega
     have hd2:decide ((j:Int)<(j:Int))=false:=by simp
     obtain ⟨O2,⟨s3,n3,his,_,hrun,hkk⟩,e1,lt1,ko⟩:=hst.out
     rw [<- LE.out.2,List.drop_length] at hrun
     have hrun2:s3=S2:=hrun
     have hkk2:n3=N2:=by have:=hkk;omega
     subst hrun2 hkk2
     obtain ⟨V3,hV3⟩: ∃ V3,V3=wr:=⟨_,rfl⟩
     subst hV3
     obtain ⟨A2,B,ρ,mm,ab,nm⟩:=his
     obtain ⟨R,hR,hab⟩:=ab.at O3k.out.2.1
     obtain ⟨S2,hS2⟩: ∃ S2,S2=s3:=⟨_,rfl⟩
     subst hS2
     obtain ⟨N2,hN2⟩: ∃ N2,N2=n3:=⟨_,rfl⟩
     subst hN2
     have MQ:Hid (Mn O2 N2 V3 M S2.Q S2.T root S2.I A2 B):=mm
     have HR:Hid (i<16/\A2 i=some R/\R.k=P2.k/\AbA ρ A2 S2.A/\Nm O2 ρ B S2):=⟨O3k.out.1,hR,hab.k,ab,nm⟩
     have KK3:Hid ((∀ b,b<W.heap.size->O2 b=O b)/\Ko O W V3/\W.heap.size<=V3.heap.size):=⟨fun b hb=>(e1 b (nla hb KK2.out.2.2)).trans (KK2.out.1 b hb),KK2.out.2.1.trans (ko.sub fun b hb=>⟨(KK2.out.1 b hb.2).trans hb.1,nla hb.2 KK2.out.2.2⟩),Nat.le_trans KK2.out.2.2 ko.size⟩
     clear mm hR hab ab nm hrun hkk e1 lt1 ko hst G2 KK2 O2k OB OB1
     have lk:=MQ.out.proc HR.out.1 HR.out.2.1
     have c3:V3.cell? ⟨M.mb,1538,none⟩=some (.map (some M.pm)):=MQ.out.mod.2.2.1
     have c1:V3.cell? ⟨R.pb,1,none⟩=some (.int .i64 R.k):=(MQ.out.prs i R HR.out.1 HR.out.2.1).pro.cell 1
     go_upto_region 11 with fail
     clear lk c3 c1
     obtain ⟨ud,hud⟩: ∃ ud,(Qo.getN S2.T R.k).used=ud:=⟨_,rfl⟩
     have OE:Hid (∀ b,b<W.heap.size->O2 b=O b):=KK3.out.1
     have UC:Hid (∀ w,bc V3 w->Calls Tryz.prog 11 #[pp M.mb,.int .i64 (i:Nat)] w (re (.int .i64 ud) w)):=fun w hb=>by
      have q:=(MQ.out.below hb).used HR.out.1 HR.out.2.1
      rw [hud] at q;exact q
     have CC2:Hid (∀ w,bc V3 w->Calls Tryz.prog 101 #[pp M.tb,.int .i64 R.k,.int .i64 ud] w fun e w'=>e=.returned (.int .i64 (Qo.creditN S2.T R.k ud))/\Qo.IsTree w' M.tb (Qo.creditT S2.T R.k ud)/\w.grownBy w' (some M.tb)):=fun w hb=>Qo.credit_any M.tb S2.T MQ.out.goo.okT R.k ud w (MQ.out.below hb).tre
     have HU:Hid ((Qo.getN S2.T R.k).used=ud):=hud
     clear hud
     refine hda (fun cw=>cw.cell? ⟨M.mb,1,none⟩=some (pp M.tb)) MQ.out.mod.2.1 fun hHeld=> ?_
     have KU:Hid (bc V3 V3.drew):=below_drew (Below.refl _ _)
     generalize V3.drew=U3 at hHeld KU |-
     refine tma 0 44 rfl ?_
     try simp only [Act.put,zaa,zba,zca]
     refine tma 1 45 rfl ?_
     try simp only [Act.put,zaa,zba,zca]
     refine tma 2 46 rfl ?_
     try simp only [Act.put,zaa,zba,zca]
     refine tla 3 47 (pp M.tb) rfl ?_ ?_
     . intro w hSw;(try dsimp only at hSw);have r:=hSw;(try go_simp);(try simp [*])
     try simp only [Act.put,zaa,zba,zca]
     refine tma 4 48 rfl ?_
     try simp only [Act.put,zaa,zba,zca]
     refine tma 5 49 rfl ?_
     try simp only [Act.put,zaa,zba,zca]
     refine tma 6 50 rfl ?_
     try simp only [Act.put,zaa,zba,zca]
     refine rda 7 ⟨some 51,_,_,_,_,none⟩ rfl fun K hK=> ?_
     go_simp
     go_wp2_with (go_at_call 11;refine Calls.mono (UC.out _ KU.out) ?_;rintro e u1 ⟨rfl,hb⟩)
     have K1:Hid (bc V3 u1):=below_then KU.out hb
     have F1:Hid (u1.cell? ⟨M.mb,1,none⟩=some (pp M.tb)):=(MQ.out.below K1.out).mod.2.1
     refine hK.out _ _ F1.out ?_
     clear hK K hHeld hb KU F1
     intro hHeld
     try simp only [Act.put,zaa,zba,zca]
     refine rda 8 ⟨some 52,_,_,_,_,none⟩ rfl fun K hK=> ?_
     go_simp
     go_wp2_with (go_at_call 101;refine Calls.mono (CC2.out _ K1.out) ?_;rintro e u2 ⟨rfl,ht,hg⟩)
     have MT:=(MQ.out.below K1.out).tree ht (MQ.out.goo.credit R.k ud) hg
     have M4:Hid (Mn O2 N2 u2 M S2.Q (Qo.creditT S2.T R.k ud) root S2.I A2 B):=MT.1
     have K4:Hid (Ko O W u2/\W.heap.size<=u2.heap.size):=⟨KK3.out.2.1.trans ((kept_of_below K1.out fun j hj=>nla hj.2 KK3.out.2.2).trans (MT.2.sub fun j hj=>⟨(KK3.out.1 j hj.2).trans hj.1,nla hj.2 (Nat.le_trans KK3.out.2.2 K1.out.size)⟩)),Nat.le_trans KK3.out.2.2 (Nat.le_trans K1.out.size hg.size)⟩
     have F4:Hid (u2.cell? ⟨M.mb,1,none⟩=some (pp M.tb)):=MT.1.mod.2.1
     clear MT
     refine hK.out _ _ F4.out ?_
     clear hK K hHeld ht hg K1 F4
     intro hHeld
     try simp only [Act.put,zaa,zba,zca]
     clear hHeld
     refine wpAnyH_done kc ?_ _
     refine NoPanic.normal ?_
     clear UC CC2 MQ
     have m1':u2.cell? ⟨M.mb,1,none⟩=some (pp M.tb):=M4.out.mod.2.1
     have EC:Hid (Calls Tryz.prog 27 #[pp M.tb,.int .i64 R.k] u2 fun e w'=>e=.returned (.int .i64 (Qo.endN (Qo.creditT S2.T R.k ud) R.k))/\Qo.IsTree w' M.tb (Qo.endT (Qo.creditT S2.T R.k ud) R.k)/\u2.grownBy w' (some M.tb)):=Qo.end_any M.tb _ M4.out.goo.okT M4.out.goo.parT R.k u2 M4.out.tre
     go_wp2_with fail
     refine Calls.mono EC.out ?_
     rintro e u3 ⟨rfl,ht,hg⟩
     have MT:=M4.out.tree ht (M4.out.goo.ends R.k) hg
     have M5:Hid (Mn O2 N2 u3 M S2.Q (Qo.endT (Qo.creditT S2.T R.k ud) R.k) root S2.I A2 B):=MT.1
     have K5:Hid (Ko O W u3/\W.heap.size<=u3.heap.size):=⟨K4.out.1.trans (MT.2.sub fun b hb=>⟨(OE.out b hb.2).trans hb.1,nla hb.2 K4.out.2⟩),Nat.le_trans K4.out.2 hg.size⟩
     clear MT ht hg m1' EC M4 K4
     have m0:u3.cell? ⟨M.mb,0,none⟩=some (pp M.tq):=M5.out.mod.1
     have QC:Hid (Calls Tryz.prog 107 #[pp M.tq,.int .i64 (i:Nat)] u3 fun e w'=>e=.returned (.int .i64 (Ca.remE S2.Q (i:Nat)))/\Ca.IsQ w' M.tq (Ca.remS S2.Q (i:Nat))/\Ca.Kb M.tq u3 w'):=Ca.rem_any M.tq S2.Q (i:Nat) O3k.out.2.2 u3 M5.out.que
     go_wp2_with fail
     refine Calls.mono QC.out ?_
     rintro e u4 ⟨rfl,hq,hkb⟩
     have MT:=M5.out.queue hq hkb
     have M6:Hid (Mn O2 N2 u4 M (Ca.remS S2.Q (i:Nat)) (Qo.endT (Qo.creditT S2.T R.k ud) R.k) root S2.I A2 B):=MT.1
     have K6:Hid (Ko O W u4/\W.heap.size<=u4.heap.size):=⟨K5.out.1.trans (MT.2.sub fun b hb=>⟨(OE.out b hb.2).trans hb.1,nla hb.2 K5.out.2⟩),Nat.le_trans K5.out.2 hkb.size⟩
     clear MT hq hkb m0 QC M5 K5
     obtain ⟨u5,del,pm5,hg5⟩:=M6.out.prm.del (k:=((i:Nat):Int)) (wf64 (by omega) (by have:=O3k.out.1;omega)) 0
     have del:(Builtin.delete_ #[53,3] 0 #[.map (some M.pm),.int .i64 (i:Nat)]).run Tryz.prog u4=.ok (.tuple #[]) u5:=del
     have m3:u4.cell? ⟨M.mb,1538,none⟩=some (.map (some M.pm)):=M6.out.mod.2.2.1
     have MG:=M6.out.gone i pm5 hg5
     have HF:Hid (Tx O W (fun O' V=>Is O' N2 V M root (finS S2 i)) u5):=by
      have eF:finS S2 i=⟨Ca.remS S2.Q (i:Nat),Qo.endT (Qo.creditT S2.T R.k ud) R.k,S2.I,setA S2.A i none,S2.B,S2.nx⟩:=by
       unfold finS
       rw [O3k.out.2.1]
       show Sa.mk _ _ _ _ _ _=_
       rw [<- HR.out.2.2.1,HU.out]
      rw [eF]
      exact ⟨O2,⟨_,B,ρ,MG.1,HR.out.2.2.2.1.del i,HR.out.2.2.2.2.keep (fun _ _=>rfl) rfl rfl (used_del HR.out.2.2.2.2.used i)⟩,OE.out,MG.1.lt,K6.out.1.trans (MG.2.sub fun b hb=>⟨(OE.out b hb.2).trans hb.1,nla hb.2 K6.out.2⟩)⟩
     clear MG pm5 hg5 M6 K6
     go_wp2_with fail
     go_returns
     exact ⟨rfl,HF.out⟩
theorem end_any: ∀ (f i:Nat) (s:Sa),i<16->EndOk f i s-> ∀ (O:Nat->Nat) (n:Nat) (W:World) (M:Mb) (root:Int),Is O n W M root s->n+6*endK f i s<900000000000->Calls Tryz.prog 89 #[pp M.mb,.int .i64 (i:Nat)] W fun e w'=>e=.returned (.tuple #[])/\Tx O W (fun O' V=>Is O' (n+6*endK f i s) V M root (endS f i s)) w'
 | 0, _, _, _, ok => absurd ok (fun h => h)
 | f + 1, i, s, hi, ok => end_step f (fun c s => end_any f c s) i s hi ok
theorem Mn.serve6 (h:Mn O n W M Q T root I A B) (i:Nat) (k1 k2:Int) (k3 k4 k5:Bool) (ad sz x k6 k7 k8 k9:Int) (r0 r1 r2 r3 r4:Int) (r5:Bool) (Y:(Nat->Nat)->World->Prop) (hY:Sta Y) (HL: ∀ w,Mn O n w M Q T root I A B->Calls Tryz.prog 34 #[pp M.mb,.int .i64 (i:Nat),.agg (sq 6 k1 k2 k3 k4 k5 ad sz x k6 k7 k8 k9)] w fun e w'=>e=.returned (.agg (sw r0 r1 r2 r3 r4 r5))/\Tx O w Y w') :
 Calls Tryz.prog 20 #[pp M.mb,.int .i64 (i:Nat),.agg (sq 6 k1 k2 k3 k4 k5 ad sz x k6 k7 k8 k9)] W fun e w'=>e=.returned (.agg (sw r0 r1 r2 r3 r4 r5))/\Tx O W Y w':=by
 have HM:Hid (Mn O n W M Q T root I A B):=h
 have OB:Hid (∀ b,W.heap.size<=b->O b=0):=fun b hb=>bca fun hh=>by have:=h.lt b hh;omega
 have LC:Hid _:=HL
 have SY:Hid (Sta Y):=hY
 have s1:(W.alloc (.cells (sq 6 k1 k2 k3 k4 k5 ad sz x k6 k7 k8 k9) 70)).heap.size=W.heap.size+1:=World.size_alloc _ _
 have G0:Hid (bc W ((W.alloc (.cells (sq 6 k1 k2 k3 k4 k5 ad sz x k6 k7 k8 k9) 70)).alloc (.cells sl1 36))/\Blk ((W.alloc (.cells (sq 6 k1 k2 k3 k4 k5 ad sz x k6 k7 k8 k9) 70)).alloc (.cells sl1 36)) W.heap.size (su 6 k1 k2 k3 k4 k5 ad sz x k6 k7 k8 k9) 70/\Blk ((W.alloc (.cells (sq 6 k1 k2 k3 k4 k5 ad sz x k6 k7 k8 k9) 70)).alloc (.cells sl1 36)) (W.heap.size+1) sm1 36):=by
  have b1:bc (W.alloc (.cells (sq 6 k1 k2 k3 k4 k5 ad sz x k6 k7 k8 k9) 70)) ((W.alloc (.cells (sq 6 k1 k2 k3 k4 k5 ad sz x k6 k7 k8 k9) 70)).alloc (.cells sl1 36)):=baa
  refine ⟨below_then baa b1,(Blk.made _ _ _).below b1,?_⟩
  rw [<- s1];exact Blk.made _ _ _
 clear h s1 hY HL
 go_enter Tryz.func20,Tryz.ntmps20
 go_upto_region 1 with fail
 generalize ((W.alloc (.cells (sq 6 k1 k2 k3 k4 k5 ad sz x k6 k7 k8 k9) 70)).alloc (.cells sl1 36))=V at G0 |-
 obtain ⟨b2,hb2⟩: ∃ b2,b2=W.heap.size+1:=⟨_,rfl⟩
 obtain ⟨b1,hb1⟩: ∃ b1,b1=W.heap.size:=⟨_,rfl⟩
 have G1:Hid (bc W V/\Blk V b1 (su 6 k1 k2 k3 k4 k5 ad sz x k6 k7 k8 k9) 70/\Blk V b2 sm1 36):=ku1
 have NB:Hid (W.heap.size<=b1/\W.heap.size<=b2/\b1≠b2):=⟨by omega,by omega,by omega⟩
 rw [<- hb2,<- hb1]
 clear hb1 hb2 G0
 have x0:V.cell? ⟨b1,0,none⟩=some (.int .i64 6):=G1.out.2.1.cell 0
 have x1:V.cell? ⟨b1,1,none⟩=some (.int .i64 k1):=G1.out.2.1.cell 1
 have x2:V.cell? ⟨b1,2,none⟩=some (.int .i64 k2):=G1.out.2.1.cell 2
 have x3:V.cell? ⟨b1,3,none⟩=some (.bool k3):=G1.out.2.1.cell 3
 have x4:V.cell? ⟨b1,4,none⟩=some (.bool k4):=G1.out.2.1.cell 4
 have x5:V.cell? ⟨b1,5,none⟩=some (.bool k5):=G1.out.2.1.cell 5
 have x6:V.cell? ⟨b1,6,none⟩=some (.int .u64 ad):=G1.out.2.1.cell 6
 have x7:V.cell? ⟨b1,7,none⟩=some (.int .i64 sz):=G1.out.2.1.cell 7
 have x8:V.cell? ⟨b1,8,none⟩=some (.int .u64 x):=G1.out.2.1.cell 8
 have x9:V.cell? ⟨b1,9,none⟩=some (.int .i64 k6):=G1.out.2.1.cell 9
 have x10:V.cell? ⟨b1,10,none⟩=some (.int .i64 k7):=G1.out.2.1.cell 10
 have x11:V.cell? ⟨b1,11,none⟩=some (.int .i64 k8):=G1.out.2.1.cell 11
 have x12:V.cell? ⟨b1,12,none⟩=some (.int .i64 k9):=G1.out.2.1.cell 12
 go_wp2_with fail
 refine Calls.mono (LC.out _ (HM.out.below G1.out.1)) ?_
 rintro e V2 ⟨rfl,hx⟩
 have KO:Ko O V V2:=by obtain ⟨O1,_,_,_,k⟩:=hx;exact k
 have B2:Blk V2 b2 sm1 36:=KO.blk G1.out.2.2 (OB.out b2 NB.out.2.1)
 have q0:V2.cell? ⟨b2,0,none⟩=some (.int .i64 0):=B2.cell 0
 have f0:V2.frozen? ⟨b2,0,none⟩=false:=B2.free 0
 have q1:V2.cell? ⟨b2,1,none⟩=some (.int .u64 0):=B2.cell 1
 have f1:V2.frozen? ⟨b2,1,none⟩=false:=B2.free 1
 have q2:V2.cell? ⟨b2,2,none⟩=some (.int .i64 0):=B2.cell 2
 have f2:V2.frozen? ⟨b2,2,none⟩=false:=B2.free 2
 have q3:V2.cell? ⟨b2,3,none⟩=some (.int .u64 0):=B2.cell 3
 have f3:V2.frozen? ⟨b2,3,none⟩=false:=B2.free 3
 have q4:V2.cell? ⟨b2,4,none⟩=some (.int .i64 0):=B2.cell 4
 have f4:V2.frozen? ⟨b2,4,none⟩=false:=B2.free 4
 have q5:V2.cell? ⟨b2,5,none⟩=some (.bool false):=B2.cell 5
 have f5:V2.frozen? ⟨b2,5,none⟩=false:=B2.free 5
 have HE:Hid (Tx O V Y V2/\Blk V2 b2 sm1 36):=⟨hx,B2⟩
 clear hx KO B2 LC x0 x1 x2 x3 x4 x5 x6 x7 x8 x9 x10 x11 x12
 go_wp2_with fail
 have RG:(World.setCells V2 b2 0 (sx r0 r1 r2 r3 r4 r5)).rangeAt b2 0 (sx r0 r1 r2 r3 r4 r5):=(Blk.put (cs:=(sx r0 r1 r2 r3 r4 r5)) HE.out.2 rfl).range
 have LV:(loadVar 36 ⟨b2,0,none⟩).run Tryz.prog (World.setCells V2 b2 0 (sx r0 r1 r2 r3 r4 r5))=.ok (.agg (sw r0 r1 r2 r3 r4 r5)) (World.setCells V2 b2 0 (sx r0 r1 r2 r3 r4 r5)):=run_loadVar_mid (P:=Tryz.prog) _ b2 0 36 (sx r0 r1 r2 r3 r4 r5) _ RG Tryz.underlying36 rfl kc
 change bodyPost _ _ _ _ _ (World.setCells V2 b2 0 (sx r0 r1 r2 r3 r4 r5))
 refine bodyPost_ret (v:=.agg (sw r0 r1 r2 r3 r4 r5)) (results_one Tryz.results20 _ _ _ ⟨b2,0,none⟩ _ rfl LV) rfl ?_
 exact ⟨rfl,Tx.to SY.out G1.out.1 HE.out.1 NB.out.2.1 G1.out.2.2.lt (OB.out b2 NB.out.2.1) (grown_setCells _ _ _ _)⟩
theorem Mn.serve12 (h:Mn O n W M Q T root I A B) (i:Nat) (k1 k2:Int) (k3 k4 k5:Bool) (ad sz x k6 k7 k8 k9:Int) (r0 r1 r2 r3 r4:Int) (r5:Bool) (Y:(Nat->Nat)->World->Prop) (hY:Sta Y) (HL: ∀ w,Mn O n w M Q T root I A B->Calls Tryz.prog 35 #[pp M.mb,.int .i64 (i:Nat),.int .i64 k6] w fun e w'=>e=.returned (.agg (sw r0 r1 r2 r3 r4 r5))/\Tx O w Y w') :
 Calls Tryz.prog 20 #[pp M.mb,.int .i64 (i:Nat),.agg (sq 12 k1 k2 k3 k4 k5 ad sz x k6 k7 k8 k9)] W fun e w'=>e=.returned (.agg (sw r0 r1 r2 r3 r4 r5))/\Tx O W Y w':=by
 have HM:Hid (Mn O n W M Q T root I A B):=h
 have OB:Hid (∀ b,W.heap.size<=b->O b=0):=fun b hb=>bca fun hh=>by have:=h.lt b hh;omega
 have LC:Hid _:=HL
 have SY:Hid (Sta Y):=hY
 have s1:(W.alloc (.cells (sq 12 k1 k2 k3 k4 k5 ad sz x k6 k7 k8 k9) 70)).heap.size=W.heap.size+1:=World.size_alloc _ _
 have G0:Hid (bc W ((W.alloc (.cells (sq 12 k1 k2 k3 k4 k5 ad sz x k6 k7 k8 k9) 70)).alloc (.cells sl1 36))/\Blk ((W.alloc (.cells (sq 12 k1 k2 k3 k4 k5 ad sz x k6 k7 k8 k9) 70)).alloc (.cells sl1 36)) W.heap.size (su 12 k1 k2 k3 k4 k5 ad sz x k6 k7 k8 k9) 70/\Blk ((W.alloc (.cells (sq 12 k1 k2 k3 k4 k5 ad sz x k6 k7 k8 k9) 70)).alloc (.cells sl1 36)) (W.heap.size+1) sm1 36):=by
  have b1:bc (W.alloc (.cells (sq 12 k1 k2 k3 k4 k5 ad sz x k6 k7 k8 k9) 70)) ((W.alloc (.cells (sq 12 k1 k2 k3 k4 k5 ad sz x k6 k7 k8 k9) 70)).alloc (.cells sl1 36)):=baa
  refine ⟨below_then baa b1,(Blk.made _ _ _).below b1,?_⟩
  rw [<- s1];exact Blk.made _ _ _
 clear h s1 hY HL
 go_enter Tryz.func20,Tryz.ntmps20
 go_upto_region 1 with fail
 generalize ((W.alloc (.cells (sq 12 k1 k2 k3 k4 k5 ad sz x k6 k7 k8 k9) 70)).alloc (.cells sl1 36))=V at G0 |-
 obtain ⟨b2,hb2⟩: ∃ b2,b2=W.heap.size+1:=⟨_,rfl⟩
 obtain ⟨b1,hb1⟩: ∃ b1,b1=W.heap.size:=⟨_,rfl⟩
 have G1:Hid (bc W V/\Blk V b1 (su 12 k1 k2 k3 k4 k5 ad sz x k6 k7 k8 k9) 70/\Blk V b2 sm1 36):=ku1
 have NB:Hid (W.heap.size<=b1/\W.heap.size<=b2/\b1≠b2):=⟨by omega,by omega,by omega⟩
 rw [<- hb2,<- hb1]
 clear hb1 hb2 G0
 have x0:V.cell? ⟨b1,0,none⟩=some (.int .i64 12):=G1.out.2.1.cell 0
 have x1:V.cell? ⟨b1,1,none⟩=some (.int .i64 k1):=G1.out.2.1.cell 1
 have x2:V.cell? ⟨b1,2,none⟩=some (.int .i64 k2):=G1.out.2.1.cell 2
 have x3:V.cell? ⟨b1,3,none⟩=some (.bool k3):=G1.out.2.1.cell 3
 have x4:V.cell? ⟨b1,4,none⟩=some (.bool k4):=G1.out.2.1.cell 4
 have x5:V.cell? ⟨b1,5,none⟩=some (.bool k5):=G1.out.2.1.cell 5
 have x6:V.cell? ⟨b1,6,none⟩=some (.int .u64 ad):=G1.out.2.1.cell 6
 have x7:V.cell? ⟨b1,7,none⟩=some (.int .i64 sz):=G1.out.2.1.cell 7
 have x8:V.cell? ⟨b1,8,none⟩=some (.int .u64 x):=G1.out.2.1.cell 8
 have x9:V.cell? ⟨b1,9,none⟩=some (.int .i64 k6):=G1.out.2.1.cell 9
 have x10:V.cell? ⟨b1,10,none⟩=some (.int .i64 k7):=G1.out.2.1.cell 10
 have x11:V.cell? ⟨b1,11,none⟩=some (.int .i64 k8):=G1.out.2.1.cell 11
 have x12:V.cell? ⟨b1,12,none⟩=some (.int .i64 k9):=G1.out.2.1.cell 12
 go_wp2_with fail
 refine Calls.mono (LC.out _ (HM.out.below G1.out.1)) ?_
 rintro e V2 ⟨rfl,hx⟩
 have KO:Ko O V V2:=by obtain ⟨O1,_,_,_,k⟩:=hx;exact k
 have B2:Blk V2 b2 sm1 36:=KO.blk G1.out.2.2 (OB.out b2 NB.out.2.1)
 have q0:V2.cell? ⟨b2,0,none⟩=some (.int .i64 0):=B2.cell 0
 have f0:V2.frozen? ⟨b2,0,none⟩=false:=B2.free 0
 have q1:V2.cell? ⟨b2,1,none⟩=some (.int .u64 0):=B2.cell 1
 have f1:V2.frozen? ⟨b2,1,none⟩=false:=B2.free 1
 have q2:V2.cell? ⟨b2,2,none⟩=some (.int .i64 0):=B2.cell 2
 have f2:V2.frozen? ⟨b2,2,none⟩=false:=B2.free 2
 have q3:V2.cell? ⟨b2,3,none⟩=some (.int .u64 0):=B2.cell 3
 have f3:V2.frozen? ⟨b2,3,none⟩=false:=B2.free 3
 have q4:V2.cell? ⟨b2,4,none⟩=some (.int .i64 0):=B2.cell 4
 have f4:V2.frozen? ⟨b2,4,none⟩=false:=B2.free 4
 have q5:V2.cell? ⟨b2,5,none⟩=some (.bool false):=B2.cell 5
 have f5:V2.frozen? ⟨b2,5,none⟩=false:=B2.free 5
 have HE:Hid (Tx O V Y V2/\Blk V2 b2 sm1 36):=⟨hx,B2⟩
 clear hx KO B2 LC x0 x1 x2 x3 x4 x5 x6 x7 x8 x9 x10 x11 x12
 go_wp2_with fail
 have RG:(World.setCells V2 b2 0 (sx r0 r1 r2 r3 r4 r5)).rangeAt b2 0 (sx r0 r1 r2 r3 r4 r5):=(Blk.put (cs:=(sx r0 r1 r2 r3 r4 r5)) HE.out.2 rfl).range
 have LV:(loadVar 36 ⟨b2,0,none⟩).run Tryz.prog (World.setCells V2 b2 0 (sx r0 r1 r2 r3 r4 r5))=.ok (.agg (sw r0 r1 r2 r3 r4 r5)) (World.setCells V2 b2 0 (sx r0 r1 r2 r3 r4 r5)):=run_loadVar_mid (P:=Tryz.prog) _ b2 0 36 (sx r0 r1 r2 r3 r4 r5) _ RG Tryz.underlying36 rfl kc
 change bodyPost _ _ _ _ _ (World.setCells V2 b2 0 (sx r0 r1 r2 r3 r4 r5))
 refine bodyPost_ret (v:=.agg (sw r0 r1 r2 r3 r4 r5)) (results_one Tryz.results20 _ _ _ ⟨b2,0,none⟩ _ rfl LV) rfl ?_
 exact ⟨rfl,Tx.to SY.out G1.out.1 HE.out.1 NB.out.2.1 G1.out.2.2.lt (OB.out b2 NB.out.2.1) (grown_setCells _ _ _ _)⟩
theorem Mn.serve_change (h:Mn O n W M Q T root I A B) (i:Nat) (op:Int) (p4:(op==4)=false) (p5:(op==5)=false) (p6:(op==6)=false) (p12:(op==12)=false) (k1 k2:Int) (k3 k4 k5:Bool) (ad sz x k6 k7 k8 k9:Int) (E:Int) (Y:(Nat->Nat)->World->Prop) (hY:Sta Y) (HL: ∀ w,Mn O n w M Q T root I A B->Calls Tryz.prog 36 #[pp M.mb,.int .i64 (i:Nat),.agg (sq op k1 k2 k3 k4 k5 ad sz x k6 k7 k8 k9)] w fun e w'=>e=.returned (.int .i64 E)/\Tx O w Y w') :
 Calls Tryz.prog 20 #[pp M.mb,.int .i64 (i:Nat),.agg (sq op k1 k2 k3 k4 k5 ad sz x k6 k7 k8 k9)] W fun e w'=>e=.returned (.agg (sw 0 0 E 0 0 false))/\Tx O W Y w':=by
 have HM:Hid (Mn O n W M Q T root I A B):=h
 have OB:Hid (∀ b,W.heap.size<=b->O b=0):=fun b hb=>bca fun hh=>by have:=h.lt b hh;omega
 have LC:Hid _:=HL
 have SY:Hid (Sta Y):=hY
 have s1:(W.alloc (.cells (sq op k1 k2 k3 k4 k5 ad sz x k6 k7 k8 k9) 70)).heap.size=W.heap.size+1:=World.size_alloc _ _
 have G0:Hid (bc W ((W.alloc (.cells (sq op k1 k2 k3 k4 k5 ad sz x k6 k7 k8 k9) 70)).alloc (.cells sl1 36))/\Blk ((W.alloc (.cells (sq op k1 k2 k3 k4 k5 ad sz x k6 k7 k8 k9) 70)).alloc (.cells sl1 36)) W.heap.size (su op k1 k2 k3 k4 k5 ad sz x k6 k7 k8 k9) 70/\Blk ((W.alloc (.cells (sq op k1 k2 k3 k4 k5 ad sz x k6 k7 k8 k9) 70)).alloc (.cells sl1 36)) (W.heap.size+1) sm1 36):=by
  have b1:bc (W.alloc (.cells (sq op k1 k2 k3 k4 k5 ad sz x k6 k7 k8 k9) 70)) ((W.alloc (.cells (sq op k1 k2 k3 k4 k5 ad sz x k6 k7 k8 k9) 70)).alloc (.cells sl1 36)):=baa
  refine ⟨below_then baa b1,(Blk.made _ _ _).below b1,?_⟩
  rw [<- s1];exact Blk.made _ _ _
 clear h s1 hY HL
 go_enter Tryz.func20,Tryz.ntmps20
 go_upto_region 1 with fail
 generalize ((W.alloc (.cells (sq op k1 k2 k3 k4 k5 ad sz x k6 k7 k8 k9) 70)).alloc (.cells sl1 36))=V at G0 |-
 obtain ⟨b2,hb2⟩: ∃ b2,b2=W.heap.size+1:=⟨_,rfl⟩
 obtain ⟨b1,hb1⟩: ∃ b1,b1=W.heap.size:=⟨_,rfl⟩
 have G1:Hid (bc W V/\Blk V b1 (su op k1 k2 k3 k4 k5 ad sz x k6 k7 k8 k9) 70/\Blk V b2 sm1 36):=ku1
 have NB:Hid (W.heap.size<=b1/\W.heap.size<=b2/\b1≠b2):=⟨by omega,by omega,by omega⟩
 rw [<- hb2,<- hb1]
 clear hb1 hb2 G0
 have x0:V.cell? ⟨b1,0,none⟩=some (.int .i64 op):=G1.out.2.1.cell 0
 have x1:V.cell? ⟨b1,1,none⟩=some (.int .i64 k1):=G1.out.2.1.cell 1
 have x2:V.cell? ⟨b1,2,none⟩=some (.int .i64 k2):=G1.out.2.1.cell 2
 have x3:V.cell? ⟨b1,3,none⟩=some (.bool k3):=G1.out.2.1.cell 3
 have x4:V.cell? ⟨b1,4,none⟩=some (.bool k4):=G1.out.2.1.cell 4
 have x5:V.cell? ⟨b1,5,none⟩=some (.bool k5):=G1.out.2.1.cell 5
 have x6:V.cell? ⟨b1,6,none⟩=some (.int .u64 ad):=G1.out.2.1.cell 6
 have x7:V.cell? ⟨b1,7,none⟩=some (.int .i64 sz):=G1.out.2.1.cell 7
 have x8:V.cell? ⟨b1,8,none⟩=some (.int .u64 x):=G1.out.2.1.cell 8
 have x9:V.cell? ⟨b1,9,none⟩=some (.int .i64 k6):=G1.out.2.1.cell 9
 have x10:V.cell? ⟨b1,10,none⟩=some (.int .i64 k7):=G1.out.2.1.cell 10
 have x11:V.cell? ⟨b1,11,none⟩=some (.int .i64 k8):=G1.out.2.1.cell 11
 have x12:V.cell? ⟨b1,12,none⟩=some (.int .i64 k9):=G1.out.2.1.cell 12
 go_wp2_with fail
 refine Calls.mono (LC.out _ (HM.out.below G1.out.1)) ?_
 rintro e V2 ⟨rfl,hx⟩
 have KO:Ko O V V2:=by obtain ⟨O1,_,_,_,k⟩:=hx;exact k
 have B2:Blk V2 b2 sm1 36:=KO.blk G1.out.2.2 (OB.out b2 NB.out.2.1)
 have q0:V2.cell? ⟨b2,0,none⟩=some (.int .i64 0):=B2.cell 0
 have f0:V2.frozen? ⟨b2,0,none⟩=false:=B2.free 0
 have q1:V2.cell? ⟨b2,1,none⟩=some (.int .u64 0):=B2.cell 1
 have f1:V2.frozen? ⟨b2,1,none⟩=false:=B2.free 1
 have q2:V2.cell? ⟨b2,2,none⟩=some (.int .i64 0):=B2.cell 2
 have f2:V2.frozen? ⟨b2,2,none⟩=false:=B2.free 2
 have q3:V2.cell? ⟨b2,3,none⟩=some (.int .u64 0):=B2.cell 3
 have f3:V2.frozen? ⟨b2,3,none⟩=false:=B2.free 3
 have q4:V2.cell? ⟨b2,4,none⟩=some (.int .i64 0):=B2.cell 4
 have f4:V2.frozen? ⟨b2,4,none⟩=false:=B2.free 4
 have q5:V2.cell? ⟨b2,5,none⟩=some (.bool false):=B2.cell 5
 have f5:V2.frozen? ⟨b2,5,none⟩=false:=B2.free 5
 have HE:Hid (Tx O V Y V2/\Blk V2 b2 sm1 36):=⟨hx,B2⟩
 clear hx KO B2 LC x0 x1 x2 x3 x4 x5 x6 x7 x8 x9 x10 x11 x12
 go_wp2_with fail
 have RG:(World.setCells V2 b2 0 (sx 0 0 E 0 0 false)).rangeAt b2 0 (sx 0 0 E 0 0 false):=(Blk.put (cs:=(sx 0 0 E 0 0 false)) HE.out.2 rfl).range
 have LV:(loadVar 36 ⟨b2,0,none⟩).run Tryz.prog (World.setCells V2 b2 0 (sx 0 0 E 0 0 false))=.ok (.agg (sw 0 0 E 0 0 false)) (World.setCells V2 b2 0 (sx 0 0 E 0 0 false)):=run_loadVar_mid (P:=Tryz.prog) _ b2 0 36 (sx 0 0 E 0 0 false) _ RG Tryz.underlying36 rfl kc
 change bodyPost _ _ _ _ _ (World.setCells V2 b2 0 (sx 0 0 E 0 0 false))
 refine bodyPost_ret (v:=.agg (sw 0 0 E 0 0 false)) (results_one Tryz.results20 _ _ _ ⟨b2,0,none⟩ _ rfl LV) rfl ?_
 exact ⟨rfl,Tx.to SY.out G1.out.1 HE.out.1 NB.out.2.1 G1.out.2.2.lt (OB.out b2 NB.out.2.1) (grown_setCells _ _ _ _)⟩
theorem Mn.serve4 (h:Mn O n W M Q T root I A B) {i:Nat} {P:Pr} (hi:i<16) (hA:A i=some P) (k1 k2:Int) (k3 k4 k5:Bool) (ad sz x k6 k7 k8 k9:Int) (r0 r1 r2 r3 r4:Int) (r5:Bool) (nn:Nat) (hnn:n<=nn) (Y:(Nat->Nat)->World->Prop) (hY:Sta Y) (hM: ∀ O' w,Y O' w->Md w M.mb M.tq M.tb M.pm/\MapF w M.pm nn (prF A)) (HL: ∀ w,Mn O n w M Q T root I A B->Calls Tryz.prog 33 #[pp M.mb,pp P.pb,.agg (sq 4 k1 k2 k3 k4 k5 ad sz x k6 k7 k8 k9)] w fun e w'=>e=.returned (.agg (sw r0 r1 r2 r3 r4 r5))/\Tx O w Y w') :
 Calls Tryz.prog 20 #[pp M.mb,.int .i64 (i:Nat),.agg (sq 4 k1 k2 k3 k4 k5 ad sz x k6 k7 k8 k9)] W fun e w'=>e=.returned (.agg (sw r0 r1 r2 r3 r4 r5))/\Tx O W Y w':=by
 have HM:Hid (Mn O n W M Q T root I A B):=h
 have OB:Hid (∀ b,W.heap.size<=b->O b=0):=fun b hb=>bca fun hh=>by have:=h.lt b hh;omega
 have LC:Hid _:=HL
 have PL:Hid (∀ w:World,MapF w M.pm nn (prF A)->(Instr.lookup 53 (.map (some M.pm)) (.int .i64 (i:Nat)) false).run Tryz.prog w=.ok (pp P.pb) w):=fun w hw=>by
  have q:=hw.look (k:=((i:Nat):Int)) (wf64 (by omega) (by omega))
  rw [prF_nat,if_pos hi,hA] at q;exact q
 have YM:Hid _:=hM
 have NN:Hid (n<=nn):=hnn
 have SY:Hid (Sta Y):=hY
 have s1:(W.alloc (.cells (sq 4 k1 k2 k3 k4 k5 ad sz x k6 k7 k8 k9) 70)).heap.size=W.heap.size+1:=World.size_alloc _ _
 have G0:Hid (bc W ((W.alloc (.cells (sq 4 k1 k2 k3 k4 k5 ad sz x k6 k7 k8 k9) 70)).alloc (.cells sl1 36))/\Blk ((W.alloc (.cells (sq 4 k1 k2 k3 k4 k5 ad sz x k6 k7 k8 k9) 70)).alloc (.cells sl1 36)) W.heap.size (su 4 k1 k2 k3 k4 k5 ad sz x k6 k7 k8 k9) 70/\Blk ((W.alloc (.cells (sq 4 k1 k2 k3 k4 k5 ad sz x k6 k7 k8 k9) 70)).alloc (.cells sl1 36)) (W.heap.size+1) sm1 36):=by
  have b1:bc (W.alloc (.cells (sq 4 k1 k2 k3 k4 k5 ad sz x k6 k7 k8 k9) 70)) ((W.alloc (.cells (sq 4 k1 k2 k3 k4 k5 ad sz x k6 k7 k8 k9) 70)).alloc (.cells sl1 36)):=baa
  refine ⟨below_then baa b1,(Blk.made _ _ _).below b1,?_⟩
  rw [<- s1];exact Blk.made _ _ _
 clear h s1 hY HL hi hA hM hnn
 go_enter Tryz.func20,Tryz.ntmps20
 go_upto_region 1 with fail
 generalize ((W.alloc (.cells (sq 4 k1 k2 k3 k4 k5 ad sz x k6 k7 k8 k9) 70)).alloc (.cells sl1 36))=V at G0 |-
 obtain ⟨b2,hb2⟩: ∃ b2,b2=W.heap.size+1:=⟨_,rfl⟩
 obtain ⟨b1,hb1⟩: ∃ b1,b1=W.heap.size:=⟨_,rfl⟩
 have G1:Hid (bc W V/\Blk V b1 (su 4 k1 k2 k3 k4 k5 ad sz x k6 k7 k8 k9) 70/\Blk V b2 sm1 36):=ku1
 have NB:Hid (W.heap.size<=b1/\W.heap.size<=b2/\b1≠b2):=⟨by omega,by omega,by omega⟩
 rw [<- hb2,<- hb1]
 clear hb1 hb2 G0
 have x0:V.cell? ⟨b1,0,none⟩=some (.int .i64 4):=G1.out.2.1.cell 0
 go_upto_region 4 with fail
 clear x0
 have BS:Hid (Md V M.mb M.tq M.tb M.pm/\MapF V M.pm nn (prF A)/\Blk V b1 (su 4 k1 k2 k3 k4 k5 ad sz x k6 k7 k8 k9) 70):=⟨(HM.out.below G1.out.1).mod,(HM.out.below G1.out.1).prm.mono NN.out,G1.out.2.1⟩
 refine hda (fun cw=>Md cw M.mb M.tq M.tb M.pm/\MapF cw M.pm nn (prF A)/\Blk cw b1 (su 4 k1 k2 k3 k4 k5 ad sz x k6 k7 k8 k9) 70) BS.out fun hHeld=> ?_
 have KU:Hid (bc V V.drew):=below_drew (Below.refl _ _)
 clear BS
 generalize V.drew=U at hHeld KU |-
 refine tma 0 12 rfl ?_
 refine tma 1 13 rfl ?_
 refine tma 2 14 rfl ?_
 refine tma 3 15 rfl ?_
 refine tla 4 16 ((.map (some M.pm))) rfl ?_ ?_
 . exact k31
 refine tma 5 17 rfl ?_
 refine tla 6 18 (pp P.pb) rfl ?_ ?_
 . exact k41
 refine tla 7 19 (.agg (sq 4 k1 k2 k3 k4 k5 ad sz x k6 k7 k8 k9)) rfl ?_ ?_
 . exact k51
 refine rda 8 ⟨some 20,_,_,_,_,none⟩ rfl fun K hK=> ?_
 go_simp
 go_wp2_with (go_at_call 33;refine Calls.mono (LC.out _ ((HM.out.below G1.out.1).below KU.out)) ?_;rintro e u1 ⟨rfl,hx⟩)
 have E1:Hid (Tx O V Y u1/\Blk u1 b2 sm1 36):=by
  have hx2:=Tx.up KU.out hx
  obtain ⟨O1,_,_,_,k⟩:=hx
  exact ⟨hx2,k.blk (G1.out.2.2.below KU.out) (OB.out b2 NB.out.2.1)⟩
 obtain ⟨O1,hy1,_,lt1,ko1⟩:=hx
 have S1:Hid (Md u1 M.mb M.tq M.tb M.pm/\MapF u1 M.pm nn (prF A)/\Blk u1 b1 (su 4 k1 k2 k3 k4 k5 ad sz x k6 k7 k8 k9) 70):=⟨(YM.out _ _ hy1).1,(YM.out _ _ hy1).2,ko1.blk hHeld.2.2 (OB.out b1 NB.out.1)⟩
 have NE:Hid (M.mb≠b2/\M.pm≠b2):=by
  have l1:=HM.out.lt M.mb (by rw [HM.out.o1];omega)
  have l4:=HM.out.lt M.pm (by rw [HM.out.o4];omega)
  have:=NB.out
  exact ⟨by omega,by omega⟩
 refine hK.out _ _ S1.out ?_
 clear hK K hHeld hy1 lt1 ko1 S1 KU
 intro hHeld
 try simp only [Act.put,zaa,zba,zca]
 refine rda 9 ⟨none,.store 36 (.tmp 6) (.tmp 20),_,_,_,none⟩ rfl fun K hK=> ?_
 refine wanted_mp rfl ?_
 have th:u1.there b2 0 6:=E1.out.2.there
 refine wp_store_mid _ _ _ rfl b2 0 (sw r0 r1 r2 r3 r4 r5) rfl rfl th kc kq1 ?_
 (try simp only [List.toList_toArray])
 have gk:=grown_setCells b2 (sx r0 r1 r2 r3 r4 r5) 0 u1
 have ne:=NE.out
 have F9:Hid (Blk (u1.setCells b2 0 (sx r0 r1 r2 r3 r4 r5)) b2 (sx r0 r1 r2 r3 r4 r5) 36):=E1.out.2.put rfl
 have S9:Hid (Md (u1.setCells b2 0 (sx r0 r1 r2 r3 r4 r5)) M.mb M.tq M.tb M.pm/\MapF (u1.setCells b2 0 (sx r0 r1 r2 r3 r4 r5)) M.pm nn (prF A)/\Blk (u1.setCells b2 0 (sx r0 r1 r2 r3 r4 r5)) b1 (su 4 k1 k2 k3 k4 k5 ad sz x k6 k7 k8 k9) 70):=⟨hHeld.1.block gk.size (gk.block _ hHeld.1.2.2.2 (fun e=>ne.1 (sia e))),hHeld.2.1.block (gk.block _ hHeld.2.1.lt (fun e=>ne.2 (sia e))),(gk.block _ hHeld.2.2.lt (fun e=>NB.out.2.2 (sia e))).trans hHeld.2.2⟩
 have HE:Hid (Tx O W Y (u1.setCells b2 0 (sx r0 r1 r2 r3 r4 r5))):=Tx.to SY.out G1.out.1 E1.out.1 NB.out.2.1 G1.out.2.2.lt (OB.out b2 NB.out.2.1) gk
 clear gk ne
 generalize u1.setCells b2 0 (sx r0 r1 r2 r3 r4 r5)=u9 at *
 refine hK.out _ _ S9.out ?_
 clear hK K hHeld th S9 E1
 intro hHeld
 try simp only [Act.put,zaa,zba,zca]
 clear hHeld
 refine wpAnyH_done kc ?_ _
 refine NoPanic.normal ?_
 have LV:(loadVar 36 ⟨b2,0,none⟩).run Tryz.prog u9=.ok (.agg (sw r0 r1 r2 r3 r4 r5)) u9:=run_loadVar_mid (P:=Tryz.prog) _ b2 0 36 (sx r0 r1 r2 r3 r4 r5) _ F9.out.range Tryz.underlying36 rfl kc
 go_wp2_with fail
 refine bodyPost_ret (v:=.agg (sw r0 r1 r2 r3 r4 r5)) (results_one Tryz.results20 _ _ _ ⟨b2,0,none⟩ _ rfl LV) rfl ?_
 exact ⟨rfl,HE.out⟩
theorem Mn.serve5 (h:Mn O n W M Q T root I A B) {i:Nat} {P:Pr} (hi:i<16) (hA:A i=some P) (k1 k2:Int) (k3 k4 k5:Bool) (ad sz x k6 k7 k8 k9:Int) (r0 r1 r2 r3 r4:Int) (r5:Bool) (nn:Nat) (hnn:n<=nn) (Y:(Nat->Nat)->World->Prop) (hY:Sta Y) (hM: ∀ O' w,Y O' w->Md w M.mb M.tq M.tb M.pm/\MapF w M.pm nn (prF A)) (HL: ∀ w,Mn O n w M Q T root I A B->Calls Tryz.prog 33 #[pp M.mb,pp P.pb,.agg (sq 5 k1 k2 k3 k4 k5 ad sz x k6 k7 k8 k9)] w fun e w'=>e=.returned (.agg (sw r0 r1 r2 r3 r4 r5))/\Tx O w Y w') :
 Calls Tryz.prog 20 #[pp M.mb,.int .i64 (i:Nat),.agg (sq 5 k1 k2 k3 k4 k5 ad sz x k6 k7 k8 k9)] W fun e w'=>e=.returned (.agg (sw r0 r1 r2 r3 r4 r5))/\Tx O W Y w':=by
 have HM:Hid (Mn O n W M Q T root I A B):=h
 have OB:Hid (∀ b,W.heap.size<=b->O b=0):=fun b hb=>bca fun hh=>by have:=h.lt b hh;omega
 have LC:Hid _:=HL
 have PL:Hid (∀ w:World,MapF w M.pm nn (prF A)->(Instr.lookup 53 (.map (some M.pm)) (.int .i64 (i:Nat)) false).run Tryz.prog w=.ok (pp P.pb) w):=fun w hw=>by
  have q:=hw.look (k:=((i:Nat):Int)) (wf64 (by omega) (by omega))
  rw [prF_nat,if_pos hi,hA] at q;exact q
 have YM:Hid _:=hM
 have NN:Hid (n<=nn):=hnn
 have SY:Hid (Sta Y):=hY
 have s1:(W.alloc (.cells (sq 5 k1 k2 k3 k4 k5 ad sz x k6 k7 k8 k9) 70)).heap.size=W.heap.size+1:=World.size_alloc _ _
 have G0:Hid (bc W ((W.alloc (.cells (sq 5 k1 k2 k3 k4 k5 ad sz x k6 k7 k8 k9) 70)).alloc (.cells sl1 36))/\Blk ((W.alloc (.cells (sq 5 k1 k2 k3 k4 k5 ad sz x k6 k7 k8 k9) 70)).alloc (.cells sl1 36)) W.heap.size (su 5 k1 k2 k3 k4 k5 ad sz x k6 k7 k8 k9) 70/\Blk ((W.alloc (.cells (sq 5 k1 k2 k3 k4 k5 ad sz x k6 k7 k8 k9) 70)).alloc (.cells sl1 36)) (W.heap.size+1) sm1 36):=by
  have b1:bc (W.alloc (.cells (sq 5 k1 k2 k3 k4 k5 ad sz x k6 k7 k8 k9) 70)) ((W.alloc (.cells (sq 5 k1 k2 k3 k4 k5 ad sz x k6 k7 k8 k9) 70)).alloc (.cells sl1 36)):=baa
  refine ⟨below_then baa b1,(Blk.made _ _ _).below b1,?_⟩
  rw [<- s1];exact Blk.made _ _ _
 clear h s1 hY HL hi hA hM hnn
 go_enter Tryz.func20,Tryz.ntmps20
 go_upto_region 1 with fail
 generalize ((W.alloc (.cells (sq 5 k1 k2 k3 k4 k5 ad sz x k6 k7 k8 k9) 70)).alloc (.cells sl1 36))=V at G0 |-
 obtain ⟨b2,hb2⟩: ∃ b2,b2=W.heap.size+1:=⟨_,rfl⟩
 obtain ⟨b1,hb1⟩: ∃ b1,b1=W.heap.size:=⟨_,rfl⟩
 have G1:Hid (bc W V/\Blk V b1 (su 5 k1 k2 k3 k4 k5 ad sz x k6 k7 k8 k9) 70/\Blk V b2 sm1 36):=ku1
 have NB:Hid (W.heap.size<=b1/\W.heap.size<=b2/\b1≠b2):=⟨by omega,by omega,by omega⟩
 rw [<- hb2,<- hb1]
 clear hb1 hb2 G0
 have x0:V.cell? ⟨b1,0,none⟩=some (.int .i64 5):=G1.out.2.1.cell 0
 go_upto_region 4 with fail
 clear x0
 have BS:Hid (Md V M.mb M.tq M.tb M.pm/\MapF V M.pm nn (prF A)/\Blk V b1 (su 5 k1 k2 k3 k4 k5 ad sz x k6 k7 k8 k9) 70):=⟨(HM.out.below G1.out.1).mod,(HM.out.below G1.out.1).prm.mono NN.out,G1.out.2.1⟩
 refine hda (fun cw=>Md cw M.mb M.tq M.tb M.pm/\MapF cw M.pm nn (prF A)/\Blk cw b1 (su 5 k1 k2 k3 k4 k5 ad sz x k6 k7 k8 k9) 70) BS.out fun hHeld=> ?_
 have KU:Hid (bc V V.drew):=below_drew (Below.refl _ _)
 clear BS
 generalize V.drew=U at hHeld KU |-
 refine tma 0 12 rfl ?_
 refine tma 1 13 rfl ?_
 refine tma 2 14 rfl ?_
 refine tma 3 15 rfl ?_
 refine tla 4 16 ((.map (some M.pm))) rfl ?_ ?_
 . exact k31
 refine tma 5 17 rfl ?_
 refine tla 6 18 (pp P.pb) rfl ?_ ?_
 . exact k41
 refine tla 7 19 (.agg (sq 5 k1 k2 k3 k4 k5 ad sz x k6 k7 k8 k9)) rfl ?_ ?_
 . exact k51
 refine rda 8 ⟨some 20,_,_,_,_,none⟩ rfl fun K hK=> ?_
 go_simp
 go_wp2_with (go_at_call 33;refine Calls.mono (LC.out _ ((HM.out.below G1.out.1).below KU.out)) ?_;rintro e u1 ⟨rfl,hx⟩)
 have E1:Hid (Tx O V Y u1/\Blk u1 b2 sm1 36):=by
  have hx2:=Tx.up KU.out hx
  obtain ⟨O1,_,_,_,k⟩:=hx
  exact ⟨hx2,k.blk (G1.out.2.2.below KU.out) (OB.out b2 NB.out.2.1)⟩
 obtain ⟨O1,hy1,_,lt1,ko1⟩:=hx
 have S1:Hid (Md u1 M.mb M.tq M.tb M.pm/\MapF u1 M.pm nn (prF A)/\Blk u1 b1 (su 5 k1 k2 k3 k4 k5 ad sz x k6 k7 k8 k9) 70):=⟨(YM.out _ _ hy1).1,(YM.out _ _ hy1).2,ko1.blk hHeld.2.2 (OB.out b1 NB.out.1)⟩
 have NE:Hid (M.mb≠b2/\M.pm≠b2):=by
  have l1:=HM.out.lt M.mb (by rw [HM.out.o1];omega)
  have l4:=HM.out.lt M.pm (by rw [HM.out.o4];omega)
  have:=NB.out
  exact ⟨by omega,by omega⟩
 refine hK.out _ _ S1.out ?_
 clear hK K hHeld hy1 lt1 ko1 S1 KU
 intro hHeld
 try simp only [Act.put,zaa,zba,zca]
 refine rda 9 ⟨none,.store 36 (.tmp 6) (.tmp 20),_,_,_,none⟩ rfl fun K hK=> ?_
 refine wanted_mp rfl ?_
 have th:u1.there b2 0 6:=E1.out.2.there
 refine wp_store_mid _ _ _ rfl b2 0 (sw r0 r1 r2 r3 r4 r5) rfl rfl th kc kq1 ?_
 (try simp only [List.toList_toArray])
 have gk:=grown_setCells b2 (sx r0 r1 r2 r3 r4 r5) 0 u1
 have ne:=NE.out
 have F9:Hid (Blk (u1.setCells b2 0 (sx r0 r1 r2 r3 r4 r5)) b2 (sx r0 r1 r2 r3 r4 r5) 36):=E1.out.2.put rfl
 have S9:Hid (Md (u1.setCells b2 0 (sx r0 r1 r2 r3 r4 r5)) M.mb M.tq M.tb M.pm/\MapF (u1.setCells b2 0 (sx r0 r1 r2 r3 r4 r5)) M.pm nn (prF A)/\Blk (u1.setCells b2 0 (sx r0 r1 r2 r3 r4 r5)) b1 (su 5 k1 k2 k3 k4 k5 ad sz x k6 k7 k8 k9) 70):=⟨hHeld.1.block gk.size (gk.block _ hHeld.1.2.2.2 (fun e=>ne.1 (sia e))),hHeld.2.1.block (gk.block _ hHeld.2.1.lt (fun e=>ne.2 (sia e))),(gk.block _ hHeld.2.2.lt (fun e=>NB.out.2.2 (sia e))).trans hHeld.2.2⟩
 have HE:Hid (Tx O W Y (u1.setCells b2 0 (sx r0 r1 r2 r3 r4 r5))):=Tx.to SY.out G1.out.1 E1.out.1 NB.out.2.1 G1.out.2.2.lt (OB.out b2 NB.out.2.1) gk
 clear gk ne
 generalize u1.setCells b2 0 (sx r0 r1 r2 r3 r4 r5)=u9 at *
 refine hK.out _ _ S9.out ?_
 clear hK K hHeld th S9 E1
 intro hHeld
 try simp only [Act.put,zaa,zba,zca]
 clear hHeld
 refine wpAnyH_done kc ?_ _
 refine NoPanic.normal ?_
 have LV:(loadVar 36 ⟨b2,0,none⟩).run Tryz.prog u9=.ok (.agg (sw r0 r1 r2 r3 r4 r5)) u9:=run_loadVar_mid (P:=Tryz.prog) _ b2 0 36 (sx r0 r1 r2 r3 r4 r5) _ F9.out.range Tryz.underlying36 rfl kc
 go_wp2_with fail
 refine bodyPost_ret (v:=.agg (sw r0 r1 r2 r3 r4 r5)) (results_one Tryz.results20 _ _ _ ⟨b2,0,none⟩ _ rfl LV) rfl ?_
 exact ⟨rfl,HE.out⟩
theorem Mn.do_bad (h:Mn O n W M Q T root I A B) (i:Nat) (hQ:Ca.nowV Q.L=(i:Nat)) (v0 v1 v2 v3 v4 v5:Int) (op:Int) (k1 k2:Int) (k3 k4 k5:Bool) (ad sz x k6 k7 k8 k9:Int) (E:Int) (E0:E≠0) (hR: ∀ w,Calls Tryz.prog 19 #[.agg (sf1 v0 v1 v2 v3 v4 v5)] w (re (.tuple #[.agg (sq op k1 k2 k3 k4 k5 ad sz x k6 k7 k8 k9),.int .i64 E]) w)) :
 Calls Tryz.prog 7 #[pp M.mb,.agg (sf1 v0 v1 v2 v3 v4 v5)] W (re (.agg (sw (i:Nat) 0 E 0 0 false)) W):=by
 have d1:decide (E=0)=false:=by simp [E0]
 have d2:(E==0)=false:=by simp [E0]
 have d3:(E != 0)=true:=by simp [E0]
 have HM:Hid (Mn O n W M Q T root I A B):=h
 have OB:Hid (∀ b,W.heap.size<=b->O b=0):=fun b hb=>bca fun hh=>by have:=h.lt b hh;omega
 have RC:Hid _:=hR
 have NC:Hid (∀ w:World,bc W w->Calls Tryz.prog 18 #[pp M.tq] w (re (.tuple #[.int .i64 (i:Nat),.bool (Ca.nowB Q.L)]) w)):=fun w hb=>by
  have q:=Ca.now_any M.tq Q w (h.below hb).que
  rw [hQ] at q;exact q
 obtain ⟨nb,hnb⟩: ∃ nb,nb=Ca.nowB Q.L:=⟨_,rfl⟩
 rw [<- hnb] at NC
 have s1:(W.alloc (.cells (sf1 v0 v1 v2 v3 v4 v5) 30)).heap.size=W.heap.size+1:=World.size_alloc _ _
 have G0:Hid (bc W ((W.alloc (.cells (sf1 v0 v1 v2 v3 v4 v5) 30)).alloc (.cells sl1 36))/\Blk ((W.alloc (.cells (sf1 v0 v1 v2 v3 v4 v5) 30)).alloc (.cells sl1 36)) W.heap.size (sj1 v0 v1 v2 v3 v4 v5) 30/\Blk ((W.alloc (.cells (sf1 v0 v1 v2 v3 v4 v5) 30)).alloc (.cells sl1 36)) (W.heap.size+1) sm1 36):=by
  have b1:bc (W.alloc (.cells (sf1 v0 v1 v2 v3 v4 v5) 30)) ((W.alloc (.cells (sf1 v0 v1 v2 v3 v4 v5) 30)).alloc (.cells sl1 36)):=baa
  refine ⟨below_then baa b1,(Blk.made _ _ _).below b1,?_⟩
  rw [<- s1];exact Blk.made _ _ _
 clear s1 h hR hQ hnb E0
 go_enter Tryz.func7,Tryz.ntmps7
 go_upto_region 1 with fail
 generalize ((W.alloc (.cells (sf1 v0 v1 v2 v3 v4 v5) 30)).alloc (.cells sl1 36))=V at G0 |-
 obtain ⟨b2,hb2⟩: ∃ b2,b2=W.heap.size+1:=⟨_,rfl⟩
 obtain ⟨b1,hb1⟩: ∃ b1,b1=W.heap.size:=⟨_,rfl⟩
 have G1:Hid (bc W V/\Blk V b1 (sj1 v0 v1 v2 v3 v4 v5) 30/\Blk V b2 sm1 36):=ku1
 have NB:Hid (W.heap.size<=b1/\W.heap.size<=b2/\b1≠b2):=⟨by omega,by omega,by omega⟩
 rw [<- hb2,<- hb1]
 clear hb1 hb2 G0
 have BC:Hid _:=booted_yes M.mb M.tq V (HM.out.mod.below G1.out.1).1
 go_wp2_with fail
 refine Calls.mono BC.out ?_
 rintro e V' ⟨rfl,hu⟩
 have hu2:=hu.symm
 subst hu2
 clear hu BC
 have m0:V.cell? ⟨M.mb,0,none⟩=some (pp M.tq):=(HM.out.mod.below G1.out.1).1
 go_wp2_with fail
 refine Calls.mono (NC.out _ G1.out.1) ?_
 rintro e w2 ⟨rfl,hb2⟩
 have G2:Hid (bc W w2/\Blk w2 b1 (sj1 v0 v1 v2 v3 v4 v5) 30/\Blk w2 b2 sm1 36):=⟨below_then G1.out.1 hb2,G1.out.2.1.below hb2,G1.out.2.2.below hb2⟩
 clear hb2 NC m0 G1
 have y0:w2.cell? ⟨b1,0,none⟩=some (.int .u64 v0):=G2.out.2.1.cell 0
 have y1:w2.cell? ⟨b1,1,none⟩=some (.int .u64 v1):=G2.out.2.1.cell 1
 have y2:w2.cell? ⟨b1,2,none⟩=some (.int .u64 v2):=G2.out.2.1.cell 2
 have y3:w2.cell? ⟨b1,3,none⟩=some (.int .u64 v3):=G2.out.2.1.cell 3
 have y4:w2.cell? ⟨b1,4,none⟩=some (.int .u64 v4):=G2.out.2.1.cell 4
 have y5:w2.cell? ⟨b1,5,none⟩=some (.int .u64 v5):=G2.out.2.1.cell 5
 go_wp2_with fail
 refine Calls.mono (RC.out _) ?_
 rintro e w3 ⟨rfl,hb3⟩
 have G4:Hid (bc W (w3.alloc (.cells (sq op k1 k2 k3 k4 k5 ad sz x k6 k7 k8 k9) 70))/\Blk (w3.alloc (.cells (sq op k1 k2 k3 k4 k5 ad sz x k6 k7 k8 k9) 70)) w3.heap.size (su op k1 k2 k3 k4 k5 ad sz x k6 k7 k8 k9) 70/\Blk (w3.alloc (.cells (sq op k1 k2 k3 k4 k5 ad sz x k6 k7 k8 k9) 70)) b2 sm1 36):=by
  have bb:bc w3 (w3.alloc (.cells (sq op k1 k2 k3 k4 k5 ad sz x k6 k7 k8 k9) 70)):=baa
  exact ⟨below_then (below_then G2.out.1 hb3) bb,Blk.made _ _ _,(G2.out.2.2.below hb3).below bb⟩
 clear hb3 RC y0 y1 y2 y3 y4 y5 G2
 go_upto_region 5 with fail
 generalize (w3.alloc (.cells (sq op k1 k2 k3 k4 k5 ad sz x k6 k7 k8 k9) 70))=V4 at G4 |-
 obtain ⟨b3,hb3⟩: ∃ b3,b3=w3.heap.size:=⟨_,rfl⟩
 have G5:Hid (bc W V4/\Blk V4 b3 (su op k1 k2 k3 k4 k5 ad sz x k6 k7 k8 k9) 70/\Blk V4 b2 sm1 36):=by rw [hb3];exact G4.out
 rw [<- hb3]
 clear hb3 G4
 have B2:=G5.out.2.2
 have q0:V4.cell? ⟨b2,0,none⟩=some (.int .i64 0):=B2.cell 0
 have f0:V4.frozen? ⟨b2,0,none⟩=false:=B2.free 0
 have q1:V4.cell? ⟨b2,1,none⟩=some (.int .u64 0):=B2.cell 1
 have f1:V4.frozen? ⟨b2,1,none⟩=false:=B2.free 1
 have q2:V4.cell? ⟨b2,2,none⟩=some (.int .i64 0):=B2.cell 2
 have f2:V4.frozen? ⟨b2,2,none⟩=false:=B2.free 2
 have q3:V4.cell? ⟨b2,3,none⟩=some (.int .u64 0):=B2.cell 3
 have f3:V4.frozen? ⟨b2,3,none⟩=false:=B2.free 3
 have q4:V4.cell? ⟨b2,4,none⟩=some (.int .i64 0):=B2.cell 4
 have f4:V4.frozen? ⟨b2,4,none⟩=false:=B2.free 4
 have q5:V4.cell? ⟨b2,5,none⟩=some (.bool false):=B2.cell 5
 have f5:V4.frozen? ⟨b2,5,none⟩=false:=B2.free 5
 clear B2
 go_wp2_with fail
 have RG:(World.setCells V4 b2 0 (sx (i:Nat) 0 E 0 0 false)).rangeAt b2 0 (sx (i:Nat) 0 E 0 0 false):=(Blk.put (cs:=(sx (i:Nat) 0 E 0 0 false)) G5.out.2.2 rfl).range
 have LV:(loadVar 36 ⟨b2,0,none⟩).run Tryz.prog (World.setCells V4 b2 0 (sx (i:Nat) 0 E 0 0 false))=.ok (.agg (sw (i:Nat) 0 E 0 0 false)) (World.setCells V4 b2 0 (sx (i:Nat) 0 E 0 0 false)):=run_loadVar_mid (P:=Tryz.prog) _ b2 0 36 (sx (i:Nat) 0 E 0 0 false) _ RG Tryz.underlying36 rfl kc
 change bodyPost _ _ _ _ _ (World.setCells V4 b2 0 (sx (i:Nat) 0 E 0 0 false))
 refine bodyPost_ret (v:=.agg (sw (i:Nat) 0 E 0 0 false)) (results_one Tryz.results7 _ _ _ ⟨b2,0,none⟩ _ rfl LV) rfl ?_
 exact ⟨rfl,below_put G5.out.1 NB.out.2.1 _⟩
theorem Mn.do_ok (h:Mn O n W M Q T root I A B) (i:Nat) (hQ:Ca.nowV Q.L=(i:Nat)) (v0 v1 v2 v3 v4 v5:Int) (op:Int) (k1 k2:Int) (k3 k4 k5:Bool) (ad sz x k6 k7 k8 k9:Int) (r1 r2 r3 r4:Int) (r5:Bool) (Y:(Nat->Nat)->World->Prop) (hY:Sta Y) (hR: ∀ w,Calls Tryz.prog 19 #[.agg (sf1 v0 v1 v2 v3 v4 v5)] w (re (.tuple #[.agg (sq op k1 k2 k3 k4 k5 ad sz x k6 k7 k8 k9),.int .i64 0]) w)) (HL: ∀ w,Mn O n w M Q T root I A B->Calls Tryz.prog 20 #[pp M.mb,.int .i64 (i:Nat),.agg (sq op k1 k2 k3 k4 k5 ad sz x k6 k7 k8 k9)] w fun e w'=>e=.returned (.agg (sw 0 r1 r2 r3 r4 r5))/\Tx O w Y w') :
 Calls Tryz.prog 7 #[pp M.mb,.agg (sf1 v0 v1 v2 v3 v4 v5)] W fun e w'=>e=.returned (.agg (sw (i:Nat) r1 r2 r3 r4 r5))/\Tx O W Y w':=by
 have SC:Hid _:=HL
 have SY:Hid (Sta Y):=hY
 have HM:Hid (Mn O n W M Q T root I A B):=h
 have OB:Hid (∀ b,W.heap.size<=b->O b=0):=fun b hb=>bca fun hh=>by have:=h.lt b hh;omega
 have RC:Hid _:=hR
 have NC:Hid (∀ w:World,bc W w->Calls Tryz.prog 18 #[pp M.tq] w (re (.tuple #[.int .i64 (i:Nat),.bool (Ca.nowB Q.L)]) w)):=fun w hb=>by
  have q:=Ca.now_any M.tq Q w (h.below hb).que
  rw [hQ] at q;exact q
 obtain ⟨nb,hnb⟩: ∃ nb,nb=Ca.nowB Q.L:=⟨_,rfl⟩
 rw [<- hnb] at NC
 have s1:(W.alloc (.cells (sf1 v0 v1 v2 v3 v4 v5) 30)).heap.size=W.heap.size+1:=World.size_alloc _ _
 have G0:Hid (bc W ((W.alloc (.cells (sf1 v0 v1 v2 v3 v4 v5) 30)).alloc (.cells sl1 36))/\Blk ((W.alloc (.cells (sf1 v0 v1 v2 v3 v4 v5) 30)).alloc (.cells sl1 36)) W.heap.size (sj1 v0 v1 v2 v3 v4 v5) 30/\Blk ((W.alloc (.cells (sf1 v0 v1 v2 v3 v4 v5) 30)).alloc (.cells sl1 36)) (W.heap.size+1) sm1 36):=by
  have b1:bc (W.alloc (.cells (sf1 v0 v1 v2 v3 v4 v5) 30)) ((W.alloc (.cells (sf1 v0 v1 v2 v3 v4 v5) 30)).alloc (.cells sl1 36)):=baa
  refine ⟨below_then baa b1,(Blk.made _ _ _).below b1,?_⟩
  rw [<- s1];exact Blk.made _ _ _
 clear s1 h hR hQ hnb HL hY
 go_enter Tryz.func7,Tryz.ntmps7
 go_upto_region 1 with fail
 generalize ((W.alloc (.cells (sf1 v0 v1 v2 v3 v4 v5) 30)).alloc (.cells sl1 36))=V at G0 |-
 obtain ⟨b2,hb2⟩: ∃ b2,b2=W.heap.size+1:=⟨_,rfl⟩
 obtain ⟨b1,hb1⟩: ∃ b1,b1=W.heap.size:=⟨_,rfl⟩
 have G1:Hid (bc W V/\Blk V b1 (sj1 v0 v1 v2 v3 v4 v5) 30/\Blk V b2 sm1 36):=ku1
 have NB:Hid (W.heap.size<=b1/\W.heap.size<=b2/\b1≠b2):=⟨by omega,by omega,by omega⟩
 rw [<- hb2,<- hb1]
 clear hb1 hb2 G0
 have BC:Hid _:=booted_yes M.mb M.tq V (HM.out.mod.below G1.out.1).1
 go_wp2_with fail
 refine Calls.mono BC.out ?_
 rintro e V' ⟨rfl,hu⟩
 have hu2:=hu.symm
 subst hu2
 clear hu BC
 have m0:V.cell? ⟨M.mb,0,none⟩=some (pp M.tq):=(HM.out.mod.below G1.out.1).1
 go_wp2_with fail
 refine Calls.mono (NC.out _ G1.out.1) ?_
 rintro e w2 ⟨rfl,hb2⟩
 have G2:Hid (bc W w2/\Blk w2 b1 (sj1 v0 v1 v2 v3 v4 v5) 30/\Blk w2 b2 sm1 36):=⟨below_then G1.out.1 hb2,G1.out.2.1.below hb2,G1.out.2.2.below hb2⟩
 clear hb2 NC m0 G1
 have y0:w2.cell? ⟨b1,0,none⟩=some (.int .u64 v0):=G2.out.2.1.cell 0
 have y1:w2.cell? ⟨b1,1,none⟩=some (.int .u64 v1):=G2.out.2.1.cell 1
 have y2:w2.cell? ⟨b1,2,none⟩=some (.int .u64 v2):=G2.out.2.1.cell 2
 have y3:w2.cell? ⟨b1,3,none⟩=some (.int .u64 v3):=G2.out.2.1.cell 3
 have y4:w2.cell? ⟨b1,4,none⟩=some (.int .u64 v4):=G2.out.2.1.cell 4
 have y5:w2.cell? ⟨b1,5,none⟩=some (.int .u64 v5):=G2.out.2.1.cell 5
 go_wp2_with fail
 refine Calls.mono (RC.out _) ?_
 rintro e w3 ⟨rfl,hb3⟩
 have G4:Hid (bc W (w3.alloc (.cells (sq op k1 k2 k3 k4 k5 ad sz x k6 k7 k8 k9) 70))/\Blk (w3.alloc (.cells (sq op k1 k2 k3 k4 k5 ad sz x k6 k7 k8 k9) 70)) w3.heap.size (su op k1 k2 k3 k4 k5 ad sz x k6 k7 k8 k9) 70/\Blk (w3.alloc (.cells (sq op k1 k2 k3 k4 k5 ad sz x k6 k7 k8 k9) 70)) b2 sm1 36):=by
  have bb:bc w3 (w3.alloc (.cells (sq op k1 k2 k3 k4 k5 ad sz x k6 k7 k8 k9) 70)):=baa
  exact ⟨below_then (below_then G2.out.1 hb3) bb,Blk.made _ _ _,(G2.out.2.2.below hb3).below bb⟩
 clear hb3 RC y0 y1 y2 y3 y4 y5 G2
 go_upto_region 5 with fail
 generalize (w3.alloc (.cells (sq op k1 k2 k3 k4 k5 ad sz x k6 k7 k8 k9) 70))=V4 at G4 |-
 obtain ⟨b3,hb3⟩: ∃ b3,b3=w3.heap.size:=⟨_,rfl⟩
 have G5:Hid (bc W V4/\Blk V4 b3 (su op k1 k2 k3 k4 k5 ad sz x k6 k7 k8 k9) 70/\Blk V4 b2 sm1 36):=by rw [hb3];exact G4.out
 rw [<- hb3]
 clear hb3 G4
 have x0:V4.cell? ⟨b3,0,none⟩=some (.int .i64 op):=G5.out.2.1.cell 0
 have x1:V4.cell? ⟨b3,1,none⟩=some (.int .i64 k1):=G5.out.2.1.cell 1
 have x2:V4.cell? ⟨b3,2,none⟩=some (.int .i64 k2):=G5.out.2.1.cell 2
 have x3:V4.cell? ⟨b3,3,none⟩=some (.bool k3):=G5.out.2.1.cell 3
 have x4:V4.cell? ⟨b3,4,none⟩=some (.bool k4):=G5.out.2.1.cell 4
 have x5:V4.cell? ⟨b3,5,none⟩=some (.bool k5):=G5.out.2.1.cell 5
 have x6:V4.cell? ⟨b3,6,none⟩=some (.int .u64 ad):=G5.out.2.1.cell 6
 have x7:V4.cell? ⟨b3,7,none⟩=some (.int .i64 sz):=G5.out.2.1.cell 7
 have x8:V4.cell? ⟨b3,8,none⟩=some (.int .u64 x):=G5.out.2.1.cell 8
 have x9:V4.cell? ⟨b3,9,none⟩=some (.int .i64 k6):=G5.out.2.1.cell 9
 have x10:V4.cell? ⟨b3,10,none⟩=some (.int .i64 k7):=G5.out.2.1.cell 10
 have x11:V4.cell? ⟨b3,11,none⟩=some (.int .i64 k8):=G5.out.2.1.cell 11
 have x12:V4.cell? ⟨b3,12,none⟩=some (.int .i64 k9):=G5.out.2.1.cell 12
 go_wp2_with fail
 refine Calls.mono (SC.out _ (HM.out.below G5.out.1)) ?_
 rintro e w5 ⟨rfl,hx⟩
 have G6:Hid (Tx O V4 Y w5/\Blk (w5.alloc (.cells (sw 0 r1 r2 r3 r4 r5) 36)) w5.heap.size (sx 0 r1 r2 r3 r4 r5) 36/\Blk (w5.alloc (.cells (sw 0 r1 r2 r3 r4 r5) 36)) b2 sm1 36/\bc w5 (w5.alloc (.cells (sw 0 r1 r2 r3 r4 r5) 36))/\b2<w5.heap.size):=by
  have bb:bc w5 (w5.alloc (.cells (sw 0 r1 r2 r3 r4 r5) 36)):=baa
  have kb:Blk w5 b2 sm1 36:=by
   obtain ⟨O1,_,_,_,k⟩:=hx
   exact k.blk G5.out.2.2 (OB.out b2 NB.out.2.1)
  exact ⟨hx,Blk.made _ _ _,kb.below bb,bb,kb.lt⟩
 clear hx SC x0 x1 x2 x3 x4 x5 x6 x7 x8 x9 x10 x11 x12
 go_upto_region 8 with fail
 generalize (w5.alloc (.cells (sw 0 r1 r2 r3 r4 r5) 36))=V6 at G6 |-
 obtain ⟨b4,hb4⟩: ∃ b4,b4=w5.heap.size:=⟨_,rfl⟩
 have G7:Hid (Tx O V4 Y w5/\Blk V6 b4 (sx 0 r1 r2 r3 r4 r5) 36/\Blk V6 b2 sm1 36/\bc w5 V6/\(w5.heap.size<=b4/\b2≠b4)):=by
  have l:=G6.out.2.2.2.2
  rw [hb4];exact ⟨G6.out.1,G6.out.2.1,G6.out.2.2.1,G6.out.2.2.2.1,by omega,by omega⟩
 rw [<- hb4]
 clear hb4 G6
 have z0:V6.cell? ⟨b4,0,none⟩=some (.int .i64 0):=G7.out.2.1.cell 0
 have zf:V6.frozen? ⟨b4,0,none⟩=false:=G7.out.2.1.free 0
 have G8:Hid (Blk (V6.setCell ⟨b4,0,none⟩ (.int .i64 (i:Nat))) b4 (sx (i:Nat) r1 r2 r3 r4 r5) 36/\Blk (V6.setCell ⟨b4,0,none⟩ (.int .i64 (i:Nat))) b2 sm1 36/\V6.grownBy (V6.setCell ⟨b4,0,none⟩ (.int .i64 (i:Nat))) (some b4)):=by
  have gk:=grown_setCell1 V6 b4 0 (.int .i64 (i:Nat))
  exact ⟨G7.out.2.1.set 0 _,(gk.block _ G7.out.2.2.1.lt (fun e=>G7.out.2.2.2.2.2 (sia e))).trans G7.out.2.2.1,gk⟩
 go_upto_region 9 with fail
 generalize V6.setCell ⟨b4,0,none⟩ (.int .i64 (i:Nat))=V7 at G8 |-
 clear z0 zf
 have x0:V7.cell? ⟨b4,0,none⟩=some (.int .i64 (i:Nat)):=G8.out.1.cell 0
 have x1:V7.cell? ⟨b4,1,none⟩=some (.int .u64 r1):=G8.out.1.cell 1
 have x2:V7.cell? ⟨b4,2,none⟩=some (.int .i64 r2):=G8.out.1.cell 2
 have x3:V7.cell? ⟨b4,3,none⟩=some (.int .u64 r3):=G8.out.1.cell 3
 have x4:V7.cell? ⟨b4,4,none⟩=some (.int .i64 r4):=G8.out.1.cell 4
 have x5:V7.cell? ⟨b4,5,none⟩=some (.bool r5):=G8.out.1.cell 5
 have B2:=G8.out.2.1
 have q0:V7.cell? ⟨b2,0,none⟩=some (.int .i64 0):=B2.cell 0
 have f0:V7.frozen? ⟨b2,0,none⟩=false:=B2.free 0
 have q1:V7.cell? ⟨b2,1,none⟩=some (.int .u64 0):=B2.cell 1
 have f1:V7.frozen? ⟨b2,1,none⟩=false:=B2.free 1
 have q2:V7.cell? ⟨b2,2,none⟩=some (.int .i64 0):=B2.cell 2
 have f2:V7.frozen? ⟨b2,2,none⟩=false:=B2.free 2
 have q3:V7.cell? ⟨b2,3,none⟩=some (.int .u64 0):=B2.cell 3
 have f3:V7.frozen? ⟨b2,3,none⟩=false:=B2.free 3
 have q4:V7.cell? ⟨b2,4,none⟩=some (.int .i64 0):=B2.cell 4
 have f4:V7.frozen? ⟨b2,4,none⟩=false:=B2.free 4
 have q5:V7.cell? ⟨b2,5,none⟩=some (.bool false):=B2.cell 5
 have f5:V7.frozen? ⟨b2,5,none⟩=false:=B2.free 5
 clear B2
 go_wp2_with fail
 have RG:(World.setCells V7 b2 0 (sx (i:Nat) r1 r2 r3 r4 r5)).rangeAt b2 0 (sx (i:Nat) r1 r2 r3 r4 r5):=(Blk.put (cs:=(sx (i:Nat) r1 r2 r3 r4 r5)) G8.out.2.1 rfl).range
 have LV:(loadVar 36 ⟨b2,0,none⟩).run Tryz.prog (World.setCells V7 b2 0 (sx (i:Nat) r1 r2 r3 r4 r5))=.ok (.agg (sw (i:Nat) r1 r2 r3 r4 r5)) (World.setCells V7 b2 0 (sx (i:Nat) r1 r2 r3 r4 r5)):=run_loadVar_mid (P:=Tryz.prog) _ b2 0 36 (sx (i:Nat) r1 r2 r3 r4 r5) _ RG Tryz.underlying36 rfl kc
 change bodyPost _ _ _ _ _ (World.setCells V7 b2 0 (sx (i:Nat) r1 r2 r3 r4 r5))
 refine bodyPost_ret (v:=.agg (sw (i:Nat) r1 r2 r3 r4 r5)) (results_one Tryz.results7 _ _ _ ⟨b2,0,none⟩ _ rfl LV) rfl ?_
 refine ⟨rfl,Tx.to SY.out G5.out.1 G7.out.1 NB.out.2.1 G5.out.2.2.lt (OB.out b2 NB.out.2.1) ?_⟩
 have g1:=G7.out.2.2.2.1
 have g2:=G8.out.2.2
 have g3:=grown_setCells b2 (sx (i:Nat) r1 r2 r3 r4 r5) 0 V7
 refine ⟨g3.os.trans (g2.os.trans g1.os),g3.tape.trans (g2.tape.trans g1.tape),g3.output.trans (g2.output.trans g1.output),Nat.le_trans g1.size (Nat.le_trans g2.size g3.size),fun j hj hne=> ?_⟩
 have l6:j<V6.heap.size:=nla hj g1.size
 rw [g3.block j (nla l6 g2.size) hne,g2.block j l6 (fun e=>by have:=sia e;have:=G7.out.2.2.2.2.1;omega),g1.block j hj]
set_option maxRecDepth 20000 in
theorem zeroM:Tryz.zeroCells60=(([.pointer none,.pointer none]:List Value)++(Sh.flatT Sh.zT 256++[Value.map none])).toArray:=kc
theorem tab_new (a b c:Value) (w:World):Sh.IsTab (a,b,c) (w.alloc (.cells (((Tryz.zeroCells60.setIfInBounds 0 a).setIfInBounds 1 b).setIfInBounds 1538 c) 60)) w.heap.size Sh.zT:=by
 have zs:(((Tryz.zeroCells60.setIfInBounds 0 a).setIfInBounds 1 b).setIfInBounds 1538 c).size=1539:=by simp only [Array.size_setIfInBounds];exact zsize
 have hc: ∀ j,(w.alloc (.cells (((Tryz.zeroCells60.setIfInBounds 0 a).setIfInBounds 1 b).setIfInBounds 1538 c) 60)).cell? ⟨w.heap.size,j,none⟩=(((Tryz.zeroCells60.setIfInBounds 0 a).setIfInBounds 1 b).setIfInBounds 1538 c)[j]? :=fun j=>World.cell?_alloc_at _ _ _ _ rfl
 have z0:Tryz.zeroCells60.size=1539:=zsize
 refine ⟨fun i hi j v hv=> ?_,?_,by rw [World.size_alloc];omega,fun j v hj=> ?_,fun j v hj=> ?_⟩
 . have hj:j<6:=(List.getElem?_eq_some_iff.1 hv).1
   rw [hc,Array.getElem?_setIfInBounds_ne (by omega),Array.getElem?_setIfInBounds_ne (by omega),Array.getElem?_setIfInBounds_ne (by omega),zeroM,List.getElem?_toArray,List.getElem?_append_right (by show 2<=_;omega),List.getElem?_append_left (by rw [Sh.flat_len];show 2+i*6+j-2<_;omega)]
   show (Sh.flatT Sh.zT 256)[2+i*6+j-2]? =some v
   rw [show 2+i*6+j-2=i*6+j by omega,Sh.flat_get Sh.zT 256 i j hi hj]
   exact hv
 . have q:=Sh.there_block (Sh.own1 w (.cells (((Tryz.zeroCells60.setIfInBounds 0 a).setIfInBounds 1 b).setIfInBounds 1538 c) 60))
   rw [zs] at q
   intro j hj
   have:=q (2+j) (by omega)
   rwa [Nat.zero_add] at this
 . have hj2:j<2:=(List.getElem?_eq_some_iff.1 hj).1
   rw [hc]
   rcases (by omega:j=0\/j=1) with e | e
   . subst e;rw [<- hj];simp [Array.getElem?_setIfInBounds,z0]
   . subst e;rw [<- hj];simp [Array.getElem?_setIfInBounds,z0]
 . have hj2:j<1:=(List.getElem?_eq_some_iff.1 hj).1
   rw [hc]
   have e:j=0:=by omega
   subst e;rw [<- hj];simp [Array.getElem?_setIfInBounds,z0]
def own4 (mb tq tb pm:Nat):Nat->Nat:=fun j=>if j=mb then 1 else if j=tq then 2 else if j=tb then 3 else if j=pm then 4 else 0
theorem own4_le (mb tq tb pm j:Nat):own4 mb tq tb pm j<=4:=by
 unfold own4
 repeat' split
 all_goals omega
theorem own4_in {mb tq tb pm j:Nat} (h:own4 mb tq tb pm j≠0):j=mb\/j=tq\/j=tb\/j=pm:=by
 unfold own4 at h
 repeat' split at h
 all_goals omega
theorem prF_none:prF (fun _=>none)=(fun _=>none):=by funext j;unfold prF;split <;> rfl
theorem lowA_none:lowA (fun _=>none) 0 16=0:=kh
theorem own4_1 (mb tq tb pm:Nat):own4 mb tq tb pm mb=1:=if_pos rfl
theorem own4_2 {mb tq tb pm:Nat} (h:tq≠mb):own4 mb tq tb pm tq=2:=(if_neg h).trans (if_pos rfl)
theorem own4_3 {mb tq tb pm:Nat} (h:tb≠mb) (h2:tb≠tq):own4 mb tq tb pm tb=3:=(if_neg h).trans ((if_neg h2).trans (if_pos rfl))
theorem own4_4 {mb tq tb pm:Nat} (h:pm≠mb) (h2:pm≠tq) (h3:pm≠tb):own4 mb tq tb pm pm=4:=(if_neg h).trans ((if_neg h2).trans ((if_neg h3).trans (if_pos rfl)))
theorem Mn.empty {W:World} {mb tq tb pm:Nat} {Q:Ca.Qu} {T:Nat->Qo.Nd} {root:Int} (hm:Sh.IsTab (pp tq,pp tb,.map (some pm)) W mb Sh.zT) (hq:Ca.IsQ W tq Q) (ht:Qo.IsTree W tb T) (hg:Qo.Good T root) (hp:MapF W pm 0 (fun _=>none)) (ne:mb≠tq/\mb≠tb/\mb≠pm/\tq≠tb/\tq≠pm/\tb≠pm) (lb:tb<W.heap.size):Mn (own4 mb tq tb pm) 0 W ⟨mb,tq,tb,pm⟩ Q T root Sh.zT (fun _=>none) (fun _ _=>0):=by
 have q4:=fun c=>own4_le mb tq tb pm c
 refine ⟨⟨hm.2.2.2.1 0 _ rfl,hm.2.2.2.1 1 _ rfl,hm.2.2.2.2 0 _ rfl,hm.2.2.1⟩,hq,ht,hg,hm,?_,fun i P hi e=>(by cases e),fun c hc=>(by have:=q4 c;omega),own4_1 _ _ _ _,own4_2 (by omega),own4_3 (by omega) (by omega),own4_4 (by omega) (by omega) (by omega),fun j hj=> ?_⟩
 . rw [prF_none];exact hp
 . rcases own4_in hj with e | e | e | e
   . rw [e];exact hm.2.2.1
   . rw [e];exact que_lt hq
   . rw [e];exact lb
   . rw [e];exact hp.lt
theorem boot_many (u t q:Int) (t0:0<=t) (tu:t+1<=u) (u1:u<=1048576) (q0:1<=q) (q1:q<=1000) (W:World) :
 Calls Tryz.prog 6 #[.int .i64 u,.int .i64 t,.int .i64 q] W fun e w'=> ∃ (O:Nat->Nat) (M:Mb) (pb lb wb:Nat),e=.returned (.tuple #[pp M.mb,.int .i64 0])/\Mn O 1 w' M ⟨q,0,[0]⟩ (Qo.chargeT (kidT (Qo.chargeT (Qo.rootT u) 0 t) (u-t)) 1 1) u Sh.zT (setA (fun _=>none) 0 (some ⟨pb,lb,wb,0,1,Tr.St.zero,none,0,[],fun _=>none,fun _ _=>none⟩)) (fun _ _=>0)/\(∀ j,j<W.heap.size->O j=0)/\bc W w':=by
 obtain ⟨rm,rc,rl⟩:=root_charge t0 (show t<=u by omega)
 obtain ⟨T1,hT1⟩: ∃ T1,T1=Qo.chargeT (Qo.rootT u) 0 t:=⟨_,rfl⟩
 rw [<- hT1] at rc rl
 have d1:decide (t<0)=false:=kg
 have d2:decide (u<t)=false:=kg
 have NC:Hid _:=Qo.new_ok u (by omega) u1 W
 have SC:Hid (∀ w:World,_):=fun w=>Ca.new_ok q q0 q1 w
 have gr:Qo.Good (Qo.rootT u) u:=Qo.root_good u (by omega) u1
 have CC:Hid (∀ (w:World) (tb:Nat),Qo.IsTree w tb (Qo.rootT u)->Calls Tryz.prog 14 #[pp tb,.int .i64 0,.int .i64 t] w fun e w'=>e=.returned (.int .i64 0)/\Qo.IsTree w' tb T1/\w.grownBy w' (some tb)):=fun w tb hw=>by
  have r:=Qo.charge_any tb (Qo.rootT u) gr.okT 0 t w hw
  rw [rm,<- hT1] at r;exact r
 have g1:Qo.Good T1 u:=by rw [hT1];exact gr.charge 0 t
 have rr:(Qo.getN T1 0).room=u-t:=by
  have e:Qo.getN T1 0=T1 0:=by unfold Qo.getN;rw [if_pos ⟨by omega,by omega⟩];rfl
  rw [e,rc];show u-(0+t)-0=u-t;omega
 have RC:Hid (∀ (w:World) (tb:Nat),Qo.IsTree w tb T1->Calls Tryz.prog 16 #[pp tb,.int .i64 0] w (re (.int .i64 (u-t)) w)):=fun w tb hw=>by
  have r:=Qo.room_any tb T1 g1.okT 0 w hw
  rw [rr] at r;exact r
 have KN:=kid_nums (T:=T1) (q:=u-t) (by rw [rc]) rl (by omega) (by rw [rc];show u-t<=u-(0+t)-0;omega)
 have km:Qo.mayN (kidT T1 (u-t)) 1 1=0:=by
  have k1:kidT T1 (u-t) 1=Qo.Nd.new 0 (u-t):=by unfold kidT;rw [Qo.put_other _ _ _ _ (by omega),Qo.put_same]
  have g:Qo.getN (kidT T1 (u-t)) 1=Qo.Nd.new 0 (u-t):=by unfold Qo.getN;rw [if_pos ⟨by omega,by omega⟩];exact k1
  unfold Qo.mayN
  rw [g,if_neg (by simp [Qo.Nd.new]),if_neg (by omega),if_neg (by simp [Qo.Nd.room,Qo.Nd.new];omega)]
 have BC:Hid (∀ (w:World) (mb tq tb pm:Nat),Mn (own4 mb tq tb pm) 0 w ⟨mb,tq,tb,pm⟩ ⟨q,0,[]⟩ T1 u Sh.zT (fun _=>none) (fun _ _=>0)->Calls Tryz.prog 15 #[pp mb,.int .i64 0,.int .i64 0,.int .i64 (u-t)] w fun e w'=>e=.returned (.tuple #[.int .i64 0,.int .i64 0])/\ ∃ pb lb wb,Tx (own4 mb tq tb pm) w (fun O' V=>Mn O' (0+1) V ⟨mb,tq,tb,pm⟩ ⟨q,0,[0]⟩ (Qo.chargeT (kidT T1 (u-t)) 1 1) u Sh.zT (setA (fun _=>none) 0 (some ⟨pb,lb,wb,0,1,Tr.St.zero,none,0,[],fun _=>none,fun _ _=>none⟩)) (fun _ _=>0)) w'):=fun w mb tq tb pm hw =>
  hw.begin 0 0 (u-t) 0 lowA_none (by omega) KN.1 1 KN.2.1 (kidT T1 (u-t)) KN.2.2 km ⟨q0,q1,by show (0:Int)<=0;omega,by show (0:Int)<q;omega,List.nodup_nil,fun x hx=>absurd hx List.not_mem_nil,fun _=>rfl⟩ rfl (by omega)
 have HT:Hid (T1=Qo.chargeT (Qo.rootT u) 0 t):=hT1
 have HG:Hid (Qo.Good T1 u):=g1
 clear hT1 t0 tu u1 q0 q1 rm rc rl gr g1 rr KN km
 go_enter Tryz.func6,Tryz.ntmps6
 go_wp2_with fail
 refine Calls.mono NC.out ?_
 rintro e w1 ⟨rfl,hO1⟩
 have E1:Hid (Qo.IsTree w1 W.heap.size (Qo.rootT u)/\bc W w1):=⟨hO1.1,hO1.2.1⟩
 clear hO1 NC
 go_wp2_with fail
 refine Calls.mono (SC.out _) ?_
 rintro e w2 ⟨rfl,hO2⟩
 have E2:Hid (Qo.IsTree w2 W.heap.size (Qo.rootT u)/\bc W w2/\Ca.IsQ w2 w1.heap.size ⟨q,0,[]⟩/\W.heap.size<w1.heap.size):=⟨E1.out.1.below hO2.2.1,below_then E1.out.2 hO2.2.1,hO2.1,E1.out.1.2.2⟩
 clear hO2 SC E1
 go_wp2_with fail
 refine Calls.mono (CC.out _ _ E2.out.1) ?_
 rintro e w3 ⟨rfl,hT3,hg3⟩
 have E3:Hid (Mn (own4 (w3.heap.size+1) w1.heap.size W.heap.size w3.heap.size) 0 ((w3.alloc (.map #[] 0)).alloc (.cells (((Tryz.zeroCells60.setIfInBounds 0 (.pointer (some ⟨w1.heap.size,0,none⟩))).setIfInBounds 1 (.pointer (some ⟨W.heap.size,0,none⟩))).setIfInBounds 1538 (.map (some w3.heap.size))) 60)) ⟨(w3.heap.size+1),w1.heap.size,W.heap.size,w3.heap.size⟩ ⟨q,0,[]⟩ T1 u Sh.zT (fun _=>none) (fun _ _=>0)/\bc W ((w3.alloc (.map #[] 0)).alloc (.cells (((Tryz.zeroCells60.setIfInBounds 0 (.pointer (some ⟨w1.heap.size,0,none⟩))).setIfInBounds 1 (.pointer (some ⟨W.heap.size,0,none⟩))).setIfInBounds 1538 (.map (some w3.heap.size))) 60))/\W.heap.size<w1.heap.size/\w1.heap.size<w3.heap.size):=by
  obtain ⟨_,b2,iq,l1⟩:=E2.out
  have lq:w1.heap.size<w2.heap.size:=que_lt iq
  have sz:=hg3.size
  have ba:bc w3 ((w3.alloc (.map #[] 0)).alloc (.cells (((Tryz.zeroCells60.setIfInBounds 0 (.pointer (some ⟨w1.heap.size,0,none⟩))).setIfInBounds 1 (.pointer (some ⟨W.heap.size,0,none⟩))).setIfInBounds 1538 (.map (some w3.heap.size))) 60)):=below_then baa (Go.Joins.below_alloc1 (w3.alloc (.map #[] 0)) _)
  have s1:(w3.alloc (.map #[] 0)).heap.size=w3.heap.size+1:=World.size_alloc _ _
  have b1:bc (w3.alloc (.map #[] 0)) ((w3.alloc (.map #[] 0)).alloc (.cells (((Tryz.zeroCells60.setIfInBounds 0 (.pointer (some ⟨w1.heap.size,0,none⟩))).setIfInBounds 1 (.pointer (some ⟨W.heap.size,0,none⟩))).setIfInBounds 1538 (.map (some w3.heap.size))) 60)):=baa
  have iq3:Ca.IsQ w3 w1.heap.size ⟨q,0,[]⟩:=iq.kept fun _=>hg3.block _ lq (fun e=>by have:=sia e;omega)
  refine ⟨Mn.empty ?_ (iq3.below ba) (hT3.below ba) HG.out ((MapF.made w3).block (b1.block _ (by rw [s1];omega))) ⟨by omega,by omega,by omega,by omega,by omega,by omega⟩ (by have:=ba.size;omega),?_,l1,by omega⟩
  . have q:=tab_new (pp w1.heap.size) (pp W.heap.size) (.map (some w3.heap.size)) (w3.alloc (.map #[] 0))
    rw [s1] at q;exact q
  . refine ⟨ba.os.trans (hg3.os.trans b2.os),ba.tape.trans (hg3.tape.trans b2.tape),ba.output.trans (hg3.output.trans b2.output),Nat.le_trans b2.size (Nat.le_trans sz ba.size),fun j hj=> ?_⟩
    have l2:j<w2.heap.size:=nla hj b2.size
    rw [ba.block j (nla l2 sz),hg3.block j l2 (fun e=>by have:=sia e;omega),b2.block j hj]
 clear hT3 hg3 CC E2 HG
 have mk: ∀ w:World,(Instr.makeMap 53 none).run Tryz.prog w=.ok (.map (some w.heap.size)) (w.alloc (.map #[] 0)):=fun w=>by kernel_rfl
 go_upto_region 11 with fail
 generalize ((w3.alloc (.map #[] 0)).alloc (.cells (((Tryz.zeroCells60.setIfInBounds 0 (.pointer (some ⟨w1.heap.size,0,none⟩))).setIfInBounds 1 (.pointer (some ⟨W.heap.size,0,none⟩))).setIfInBounds 1538 (.map (some w3.heap.size))) 60))=V at E3 |-
 clear mk
 obtain ⟨mb,hmb⟩: ∃ mb,mb=w3.heap.size+1:=⟨_,rfl⟩
 obtain ⟨tq,htq⟩: ∃ tq,tq=w1.heap.size:=⟨_,rfl⟩
 obtain ⟨tb,htb⟩: ∃ tb,tb=W.heap.size:=⟨_,rfl⟩
 obtain ⟨pm,hpm⟩: ∃ pm,pm=w3.heap.size:=⟨_,rfl⟩
 have E4:Hid (Mn (own4 mb tq tb pm) 0 V ⟨mb,tq,tb,pm⟩ ⟨q,0,[]⟩ T1 u Sh.zT (fun _=>none) (fun _ _=>0)/\bc W V/\(W.heap.size<=mb/\W.heap.size<=tq/\W.heap.size<=tb/\W.heap.size<=pm)):=by
  have l:=E3.out.2.2
  rw [hmb,htq,htb,hpm];exact ⟨E3.out.1,E3.out.2.1,by omega,by omega,by omega,by omega⟩
 rw [<- hmb,<- htq,<- htb]
 clear hmb htq htb hpm E3
 have uw:IntKind.i64.wrap (u-t)=u-t\/True:=Or.inr trivial
 clear uw
 go_wp2_with fail
 refine Calls.mono (RC.out _ _ E4.out.1.tre) ?_
 rintro e V2 ⟨rfl,hb2⟩
 have E5:Hid (Mn (own4 mb tq tb pm) 0 V2 ⟨mb,tq,tb,pm⟩ ⟨q,0,[]⟩ T1 u Sh.zT (fun _=>none) (fun _ _=>0)/\bc W V2):=⟨E4.out.1.below hb2,below_then E4.out.2.1 hb2⟩
 clear hb2 RC
 go_wp2_with fail
 refine Calls.mono (BC.out _ _ _ _ _ E5.out.1) ?_
 rintro e V3 ⟨rfl,pb,lb,wb,hx⟩
 have HE:Hid (∃ (O:Nat->Nat) (pb lb wb:Nat),Mn O 1 V3 ⟨mb,tq,tb,pm⟩ ⟨q,0,[0]⟩ (Qo.chargeT (kidT T1 (u-t)) 1 1) u Sh.zT (setA (fun _=>none) 0 (some ⟨pb,lb,wb,0,1,Tr.St.zero,none,0,[],fun _=>none,fun _ _=>none⟩)) (fun _ _=>0)/\(∀ j,j<W.heap.size->O j=0)/\bc W V3):=by
  obtain ⟨l1,l2,l3,l4⟩:=E4.out.2.2
  have bs:=E5.out.2
  obtain ⟨O,mm,eo,_,hK⟩:=hx
  have oz: ∀ j,j<W.heap.size->own4 mb tq tb pm j=0:=fun j hj=>bca fun hh=>by rcases own4_in hh with e | e | e | e <;> omega
  refine ⟨O,pb,lb,wb,mm,fun j hj=>(eo j (nla hj bs.size)).trans (oz j hj),⟨hK.os.trans bs.os,hK.tape.trans bs.tape,hK.output.trans bs.output,Nat.le_trans bs.size hK.size,fun j hj=> ?_⟩⟩
  rw [hK.block j ⟨oz j hj,nla hj bs.size⟩,bs.block j hj]
 clear hx BC E4 E5
 go_wp2_with fail
 go_returns
 obtain ⟨O,pb,lb,wb,m1,m2,m3⟩:=HE.out
 rw [HT.out] at m1
 exact ⟨O,⟨mb,tq,tb,pm⟩,pb,lb,wb,rfl,m1,m2,m3⟩
theorem Mn.tick (h:Mn O n W M Q T root I A B) (g:Ca.Good Q) :
 Calls Tryz.prog 8 #[pp M.mb] W fun e w'=>e=.returned (.tuple #[.bool (Ca.tckB Q),.int .i64 0])/\Tx O W (fun O' V=>Mn O' n V M (Ca.tckS Q) T root I A B) w':=by
 have HM:Hid (Mn O n W M Q T root I A B):=h
 have BC:Hid _:=booted_yes M.mb M.tq W h.mod.1
 have TC:Hid _:=Ca.tck_any M.tq Q g W h.que
 obtain ⟨tb,htb⟩: ∃ tb,tb=Ca.tckB Q:=⟨_,rfl⟩
 rw [<- htb] at TC |-
 have m0:W.cell? ⟨M.mb,0,none⟩=some (pp M.tq):=h.mod.1
 clear h g htb
 go_enter Tryz.func8,Tryz.ntmps8
 go_wp2_with fail
 refine Calls.mono BC.out ?_
 rintro e V' ⟨rfl,hu⟩
 have hu2:=hu.symm
 subst hu2
 clear hu BC
 go_wp2_with fail
 refine Calls.mono TC.out ?_
 rintro e u ⟨rfl,hq,hk⟩
 have MT:=HM.out.queue hq hk
 have HX:Hid (Tx O W (fun O' V=>Mn O' n V M (Ca.tckS Q) T root I A B) u):=⟨O,MT.1,fun _ _=>rfl,MT.1.lt,MT.2⟩
 clear MT hq hk TC m0
 go_wp2_with fail
 go_returns
 exact ⟨rfl,HX.out⟩
theorem Mn.line (h:Mn O n W M Q T root I A B) :
 Calls Tryz.prog 10 #[pp M.mb] W fun e w'=>(∃ p c,e=.returned (.slice p Q.L.length c)/\Ca.IsI w' p Q.L W.heap.size)/\bc W w':=by
 have BC:Hid _:=booted_yes M.mb M.tq W h.mod.1
 have TC:Hid _:=Ca.line_any M.tq Q W h.que
 have m0:W.cell? ⟨M.mb,0,none⟩=some (pp M.tq):=h.mod.1
 clear h
 go_enter Tryz.func10,Tryz.ntmps10
 go_wp2_with fail
 refine Calls.mono BC.out ?_
 rintro e V' ⟨rfl,hu⟩
 have hu2:=hu.symm
 subst hu2
 clear hu BC
 go_wp2_with fail
 refine Calls.mono TC.out ?_
 rintro e u ⟨⟨p,c,rfl,hi⟩,hb⟩
 have HX:Hid (Ca.IsI u p Q.L W.heap.size/\bc W u):=⟨hi,hb⟩
 clear hi hb TC m0
 go_wp2_with fail
 go_returns
 exact ⟨⟨p,c,rfl,HX.out.1⟩,HX.out.2⟩
end
end Go.Proofs.YtokpmclmdobgeaaGreat.Fl
