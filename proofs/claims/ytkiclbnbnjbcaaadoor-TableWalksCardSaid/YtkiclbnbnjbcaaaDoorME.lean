import Derived.Test.YtkiclbnbnjbcaaaDoorMD
import Derived.Test.YtkiclbnbnjbcaaaDoorMC
namespace Go.Proofs.YtkiclbnbnjbcaaaDoor.Tt
set_option linter.unusedSimpArgs false
set_option linter.unusedVariables false
set_option maxRecDepth 8000
def pg (lf:Nat->Option Lf):Nat->Nat->List Nat
 | 0, p => if (lf p).isSome = true then [p] else []
 | l + 1, x => (List.range 512).flatMap fun i => pg lf l (x * 512 + i)
theorem mem_pg (lf:Nat->Option Lf) (p:Nat): ∀ l x,p∈pg lf l x↔pre l p=x/\(lf p).isSome=true:=by
 intro l
 induction l with
 | zero =>
  intro x
  show p∈(if (lf x).isSome=true then [x] else [])↔p=x/\_
  constructor
  . intro h
    by_cases c:(lf x).isSome=true
    . rw [if_pos c] at h
      simp at h
      subst h
      exact ⟨rfl,c⟩
    . rw [if_neg c] at h;cases h
  . rintro ⟨rfl,h⟩
    rw [if_pos h];simp
 | succ l ih =>
  intro x
  show p∈(List.range 512).flatMap _↔pre l p / 512=x/\_
  rw [List.mem_flatMap]
  constructor
  . rintro ⟨i,hi,h⟩
    rw [List.mem_range] at hi
    obtain ⟨a,b⟩:=(ih _).1 h
    exact ⟨by omega,b⟩
  . rintro ⟨a,b⟩
    exact ⟨pre l p % 512,List.mem_range.2 (Nat.mod_lt _ (by omega)),(ih _).2 ⟨by omega,b⟩⟩
theorem pre_mono {p q:Nat} (h:p<=q): ∀ l,pre l p<=pre l q:=by
 intro l
 induction l with
 | zero => exact h
 | succ l ih => show pre l p / 512 ≤ pre l q / 512; exact Nat.div_le_div_right ih
theorem pg_rising (lf:Nat->Option Lf): ∀ l x,(pg lf l x).Pairwise (· < ·):=by
 intro l
 induction l with
 | zero =>
  intro x
  show (if (lf x).isSome=true then [x] else []).Pairwise _
  split <;> simp
 | succ l ih =>
  intro x
  show ((List.range 512).flatMap fun i=>pg lf l (x*512+i)).Pairwise _
  rw [List.pairwise_flatMap]
  refine ⟨fun i _=>ih _,?_⟩
  refine List.pairwise_lt_range.imp ?_
  intro i j hij a ha c hc
  have e1:=((mem_pg lf a l _).1 ha).1
  have e2:=((mem_pg lf c l _).1 hc).1
  apply Nat.lt_of_not_le
  intro hle
  have:=pre_mono hle l
  omega
end Go.Proofs.YtkiclbnbnjbcaaaDoor.Tt
namespace Go.Proofs.YtkiclbnbnjbcaaaDoor.Tt
open Go.ChangeShapes Go.WideShapes Go.ChangeAt Go.RowKit Go.Maps
set_option linter.unusedSimpArgs false
set_option linter.unusedVariables false
set_option maxRecDepth 8000
section
variable {M:Int->Int} {root:Nat} {tab:Nat->Nat->Option Nat} {lf:Nat->Option Lf}
end
end Go.Proofs.YtkiclbnbnjbcaaaDoor.Tt
namespace Go.Proofs.YtkiclbnbnjbcaaaDoor.Tt
open Go.ChangeShapes Go.WideShapes Go.ChangeAt Go.RowKit Go.Maps
open Go.Proofs.YtkiclbnbnjbcaaaDoor.Li (wpList_app)
set_option linter.unusedSimpArgs false
set_option linter.unusedVariables false
set_option maxRecDepth 8000
end Go.Proofs.YtkiclbnbnjbcaaaDoor.Tt
namespace Go.Proofs.YtkiclbnbnjbcaaaDoor.Tt
set_option linter.unusedSimpArgs false
set_option linter.unusedVariables false
set_option maxRecDepth 8000
def Lo (tab:Nat->Nat->Option Nat) (lf:Nat->Option Lf) (p l:Nat):Prop :=
 (∀ l' x f,l'<4->tab l' x=some f->(∃ p',(lf p').isSome=true/\pre l' p'=x)\/(l<=l'/\x=pre l' p))/\ ∀ l',1<=l'->l'<l->tab l' (pre l' p)=none
theorem Lo.start {M:Int->Int} {root:Nat} {tab:Nat->Nat->Option Nat} {lf:Nat->Option Lf} (H:PW M root tab lf) (fu:Full tab lf) (p:Nat):Lo tab (lfSet lf p none) p 1:=by
 refine ⟨fun l' x f l4 e=> ?_,fun l' a b=>by omega⟩
 obtain ⟨p',hs,hp⟩:=fu l' x f l4 e
 by_cases c:p'=p
 . subst c
   exact Or.inr ⟨(H.dom _ _ _ e).1,hp.symm⟩
 . exact Or.inl ⟨p',by rw [lf_other c];exact hs,hp⟩
theorem Lo.step {tab:Nat->Nat->Option Nat} {lf:Nat->Option Lf} {p l:Nat} (h:Lo tab lf p l):Lo (tabSet tab l (pre l p) none) lf p (l+1):=by
 refine ⟨fun l' x f l4 e=> ?_,fun l' a b=> ?_⟩
 . by_cases c:l'=l/\x=pre l p
   . obtain ⟨rfl,rfl⟩:=c
     rw [tab_same] at e;cases e
   . rw [tab_other c] at e
     rcases h.1 l' x f l4 e with q | ⟨q1,q2⟩
     . exact Or.inl q
     . refine Or.inr ⟨?_,q2⟩
       by_cases c2:l'=l
       . subst c2;exact absurd ⟨rfl,q2⟩ c
       . omega
 . by_cases c:l'=l
   . subst c;exact tab_same _ _ _ _
   . rw [tab_other (fun q=>c q.1)]
     exact h.2 l' a (by omega)
theorem Lo.done {tab:Nat->Nat->Option Nat} {lf:Nat->Option Lf} {p:Nat} (h:Lo tab lf p 4):Full tab lf:=fun l x f l4 e=>by
 rcases h.1 l x f l4 e with q | ⟨q,_⟩
 . exact q
 . omega
theorem pre_up {p q l:Nat} (h:pre l p=pre l q): ∀ d,pre (l+d) p=pre (l+d) q:=by
 intro d
 induction d with
 | zero => exact h
 | succ d ih => show pre (l + d) p / 512 = pre (l + d) q / 512; rw [ih]
theorem Lo.stop {M:Int->Int} {root:Nat} {tab:Nat->Nat->Option Nat} {lf:Nat->Option Lf} (H:PW M root tab lf) {p l f:Nat} (h:Lo tab lf p l) (l1:1<=l) (l3:l<=3) (hf:tab l (pre l p)=some f) (nz: ¬ ∀ i:Nat,i<512->En M f i=0):Full tab lf:=by
 obtain ⟨p',hs,hp⟩: ∃ p',(lf p').isSome=true/\pre l p'=pre l p:=by
  have ne:=fun q=>nz ((H.empty l1 l3 hf).2 q)
  by_cases c:l=1
  . subst c
    apply Classical.byContradiction
    intro no
    refine ne ⟨fun _ p' hp'=> ?_,fun q=>by omega⟩
    cases e:lf p' with
    | none => rfl
    | some v => exact absurd ⟨p', by rw [e]; rfl, hp'⟩ no
  . apply Classical.byContradiction
    intro no
    refine ne ⟨fun q=>absurd q c,fun _ y hy=> ?_⟩
    cases e:tab (l-1) y with
    | none => rfl
    | some g =>
     rcases h.1 (l-1) y g (by omega) e with ⟨p',hs,hp⟩ | ⟨q,_⟩
     . refine absurd ⟨p',hs,?_⟩ no
       have el:l=(l-1)+1:=by omega
       rw [<- hy,<- hp]
       rw [el]
       rfl
     . omega
 intro l' x f' l4 e
 rcases h.1 l' x f' l4 e with q | ⟨q1,q2⟩
 . exact q
 . refine ⟨p',hs,?_⟩
   have:=pre_up hp (l'-l)
   rw [show l+(l'-l)=l' by omega] at this
   rw [this,q2]
end Go.Proofs.YtkiclbnbnjbcaaaDoor.Tt
namespace Go.Proofs.YtkiclbnbnjbcaaaDoor.Tt
open Go.ChangeShapes Go.WideShapes Go.ChangeAt Go.RowKit Go.Maps
set_option linter.unusedSimpArgs false
set_option linter.unusedVariables false
set_option maxRecDepth 8000
theorem give_cnt {s:Ps} (k p:Nat) (hp:p<1000000) (hf: ¬ s.Fr p):Bd.cnt (giveS s k p).Fr 1048576=Bd.cnt s.Fr 1048576+1:=by
 show Bd.cnt (fun i=>s.Fr i\/i=p) 1048576=_
 rw [Bd.cnt_or s.Fr (fun i=>i=p) (fun i h e=>hf (by rw [<- e];exact h))]
 have e1:Bd.cnt (fun i=>i=p) 1048576=1:=by
  have b:=Bd.cnt_blk (o:=0) (q:=p) (M:=1048576) (by simp;omega)
  simpa using b
 rw [e1]
theorem Nums.give {m:Pm} {s:Ps} {k:Nat} {r u:Int} {f:Nat} (h:Nums m s k r u f) {p:Nat} (hp:p<1000000) (hf: ¬ s.Fr p) (M:Int->Int) (q:Nat):Nums m { giveS s k p with M:=M,q:=q } k (r+1) (u-1) (f+1):=by
 have e:usedT s.T k (-1) k=(s.T k).plus (-1):=used_at _ _ _
 refine ⟨h.k6,?_,?_,?_,?_⟩
 . show (usedT s.T k (-1) k).live=true
   rw [e];exact h.live
 . show (usedT s.T k (-1) k).room=_
   rw [e]
   have q:=h.room
   have q':(s.T k).quota-(s.T k).used-(s.T k).lent=r:=q
   show (s.T k).quota-((s.T k).used+ -1)-(s.T k).lent=r+1
   omega
 . show (usedT s.T k (-1) k).used=_
   rw [e]
   have q:=h.used
   show (s.T k).used+ -1=u-1
   omega
 . have q:=give_cnt (s:=s) k p hp hf
   have:=h.free
   show Bd.cnt (giveS s k p).Fr 1048576=f+1
   omega
theorem ow_give {m:Pm} {s:Ps} {k:Nat} {M:Int->Int} {root:Nat} {tab:Nat->Nat->Option Nat} {lf:Nat->Option Lf} (H:PW M root tab lf) (ow: ∀ l x (f:Nat),tab l x=some f->m.has f=true/\s.G f=some 0/\ ¬ s.Fr f) {l x f:Nat} (hf:tab l x=some f) :
 ∀ l' x' (g:Nat),tabSet tab l x none l' x'=some g->m.has g=true/\(giveS s k f).G g=some 0/\ ¬ (giveS s k f).Fr g:=fun l' x' g e=>by
 by_cases c:l'=l/\x'=x
 . obtain ⟨rfl,rfl⟩:=c
   rw [tab_same] at e;cases e
 . rw [tab_other c] at e
   have ne:g≠f:=fun q=>c (by subst q;exact H.inj _ _ _ _ _ e hf)
   obtain ⟨a,b,d⟩:=ow l' x' g e
   refine ⟨a,?_,fun q=> ?_⟩
   . show Bd.setF s.G f none g=some 0
     unfold Bd.setF
     rw [if_neg (by omega)]
     exact b
   . rcases q with q | q
     . exact d q
     . exact ne q
end Go.Proofs.YtkiclbnbnjbcaaaDoor.Tt
namespace Go.Proofs.YtkiclbnbnjbcaaaDoor.Tt
open Go.ChangeShapes Go.WideShapes Go.ChangeAt Go.RowKit Go.Maps
set_option linter.unusedSimpArgs false
set_option linter.unusedVariables false
set_option maxRecDepth 8000
def frL (l:Nat) (P:List Nat) (p:Nat):Nat:=if P.any (fun q=>pre l q==pre l p) then 0 else 1
def fresh (P:List Nat) (p:Nat):Nat:=frL 1 P p+frL 2 P p+frL 3 P p
def tabsN:List Nat->Nat
 | [] => 1
 | p :: P => tabsN P + fresh P p
theorem frL_zero {l:Nat} {P:List Nat} {p q:Nat} (hq:q∈P) (e:pre l q=pre l p):frL l P p=0:=by
 unfold frL
 rw [if_pos]
 rw [List.any_eq_true]
 exact ⟨q,hq,by simp [e]⟩
theorem frL_one {l:Nat} {P:List Nat} {p:Nat} (h: ∀ q∈P,pre l q≠pre l p):frL l P p=1:=by
 unfold frL
 rw [if_neg]
 intro e
 rw [List.any_eq_true] at e
 obtain ⟨q,hq,e⟩:=e
 exact h q hq (by simpa using e)
theorem frL_or (l:Nat) (P:List Nat) (p:Nat):(frL l P p=0/\ ∃ q∈P,pre l q=pre l p)\/(frL l P p=1/\ ∀ q∈P,pre l q≠pre l p):=by
 by_cases c: ∃ q∈P,pre l q=pre l p
 . obtain ⟨q,hq,e⟩:=c
   exact Or.inl ⟨frL_zero hq e,q,hq,e⟩
 . have h: ∀ q∈P,pre l q≠pre l p:=fun q hq e=>c ⟨q,hq,e⟩
   exact Or.inr ⟨frL_one h,h⟩
theorem frL_mem {l:Nat} {P P':List Nat} {p:Nat} (h: ∀ q,q∈P↔q∈P'):frL l P p=frL l P' p:=by
 rcases frL_or l P p with ⟨e,q,hq,eq⟩ | ⟨e,hn⟩
 . rw [e,frL_zero ((h q).1 hq) eq]
 . rw [e,frL_one (fun q hq=>hn q ((h q).2 hq))]
theorem fresh_mem {P P':List Nat} {p:Nat} (h: ∀ q,q∈P↔q∈P'):fresh P p=fresh P' p:=by
 unfold fresh;rw [frL_mem h,frL_mem h,frL_mem h]
theorem fresh_le (P:List Nat) (p:Nat):fresh P p<=3:=by
 unfold fresh frL
 split <;> split <;> split <;> omega
theorem frL_swap (l p q:Nat) (P:List Nat):frL l P q+frL l (q::P) p=frL l P p+frL l (p::P) q:=by
 by_cases c:pre l p=pre l q
 . rw [frL_zero (q:=q) List.mem_cons_self c.symm,frL_zero (q:=p) (p:=q) List.mem_cons_self c]
   have:frL l P p=frL l P q:=by unfold frL;rw [c]
   omega
 . have h1:frL l (q::P) p=frL l P p:=by
    unfold frL;rw [List.any_cons]
    have:(pre l q==pre l p)=false:=by simp;exact fun e=>c e.symm
    rw [this,Bool.false_or]
   have h2:frL l (p::P) q=frL l P q:=by
    unfold frL;rw [List.any_cons]
    have:(pre l p==pre l q)=false:=by simp;exact c
    rw [this,Bool.false_or]
   omega
theorem tabs_perm {P P':List Nat} (h:P.Perm P'):tabsN P=tabsN P':=by
 induction h with
 | nil => rfl
 | cons p h ih =>
  show tabsN _+fresh _ p=tabsN _+fresh _ p
  rw [ih,fresh_mem (fun q=>h.mem_iff)]
 | swap p q P =>
  show tabsN P+fresh P p+fresh (p::P) q=tabsN P+fresh P q+fresh (q::P) p
  have a:=frL_swap 1 p q P
  have b:=frL_swap 2 p q P
  have c:=frL_swap 3 p q P
  unfold fresh
  omega
 | trans _ _ a b => exact a.trans b
theorem tabs_pos: ∀ P,1<=tabsN P
 | [] => Nat.le_refl _
 | p :: P => Nat.le_trans (tabs_pos P) (Nat.le_add_right _ _)
theorem tabs_le: ∀ P,tabsN P<=1+3*P.length
 | [] => Nat.le_refl _
 | p :: P => by
  have:=tabs_le P
  have:=fresh_le P p
  show tabsN P+fresh P p<=1+3*(P.length+1)
  omega
theorem tabs_four {P:List Nat} (h:P≠[]):4<=tabsN P:=by
 cases P with
 | nil => exact absurd rfl h
 | cons p P =>
  have q: ∀ (P:List Nat) (p:Nat),4<=tabsN (p::P):=by
   intro P
   induction P with
   | nil => intro p; exact Nat.le_refl _
   | cons q P ih => intro p; exact Nat.le_trans (ih q) (Nat.le_add_right _ _)
  exact q P p
abbrev pgs (lf:Nat->Option Lf):List Nat:=pg lf 4 0
section
variable {M:Int->Int} {root:Nat} {tab:Nat->Nat->Option Nat} {lf:Nat->Option Lf}
theorem PW.mem (H:PW M root tab lf) (p:Nat):p∈pgs lf↔(lf p).isSome=true:=by
 rw [mem_pg]
 constructor
 . exact fun h=>h.2
 . intro h
   obtain ⟨v,hv⟩:=Option.isSome_iff_exists.1 h
   exact ⟨pre4 (H.lf1 p v hv).1,h⟩
theorem pgs_nodup (lf:Nat->Option Lf):(pgs lf).Nodup:=(pg_rising lf 4 0).imp (fun h=>Nat.ne_of_lt h)
theorem PW.has (H:PW M root tab lf) {q:Nat} (h:(lf q).isSome=true) {l:Nat} (l1:1<=l) (l3:l<=3): ∃ f,tab l (pre l q)=some f:=by
 obtain ⟨v,hv⟩:=Option.isSome_iff_exists.1 h
 obtain ⟨_,g,hg,_⟩:=H.lf1 q v hv
 have t1:tab 1 (pre 1 q)=some g:=hg
 obtain ⟨g2,t2,_⟩:=H.up 1 _ g (by omega) t1
 have t2':tab 2 (pre 2 q)=some g2:=t2
 obtain ⟨g3,t3,_⟩:=H.up 2 _ g2 (by omega) t2'
 have t3':tab 3 (pre 3 q)=some g3:=t3
 rcases (show l=1\/l=2\/l=3 by omega) with rfl | rfl | rfl
 . exact ⟨g,t1⟩
 . exact ⟨g2,t2'⟩
 . exact ⟨g3,t3'⟩
theorem PW.frL (H:PW M root tab lf) (F:Full tab lf) (p:Nat) {l:Nat} (l1:1<=l) (l3:l<=3):(tab l (pre l p)=none/\frL l (pgs lf) p=1)\/((∃ f,tab l (pre l p)=some f)/\frL l (pgs lf) p=0):=by
 cases c:tab l (pre l p) with
 | none =>
  refine Or.inl ⟨rfl,frL_one (fun q hq e=> ?_)⟩
  obtain ⟨f,hf⟩:=H.has ((H.mem q).1 hq) l1 l3
  rw [e,c] at hf;cases hf
 | some f =>
  refine Or.inr ⟨⟨f,rfl⟩,?_⟩
  obtain ⟨q,hq,e⟩:=F l _ f (by omega) c
  exact frL_zero ((H.mem q).2 hq) e
theorem PW.miss (H:PW M root tab lf) (F:Full tab lf) (p:Nat):miss tab p=fresh (pgs lf) p:=by
 have n32:tab 3 (pre 3 p)=none->tab 2 (pre 2 p)=none:=fun h=>none_below H 1 2 (by omega) (by omega) h
 have n21:tab 2 (pre 2 p)=none->tab 1 (pre 1 p)=none:=fun h=>none_below H 1 1 (by omega) (by omega) h
 unfold Tt.miss fresh
 rcases H.frL F p (l:=1) (by omega) (by omega) with ⟨a1,b1⟩ | ⟨⟨f1,a1⟩,b1⟩ <;>
 rcases H.frL F p (l:=2) (by omega) (by omega) with ⟨a2,b2⟩ | ⟨⟨f2,a2⟩,b2⟩ <;>
 rcases H.frL F p (l:=3) (by omega) (by omega) with ⟨a3,b3⟩ | ⟨⟨f3,a3⟩,b3⟩ <;>
 rw [b1,b2,b3] <;> simp [a1,a2,a3]
 . have:=n32 a3;rw [a2] at this;cases this
 . have:=n21 a2;rw [a1] at this;cases this
 . have:=n21 a2;rw [a1] at this;cases this
 . have:=n32 a3;rw [a2] at this;cases this
theorem pgs_more (H:PW M root tab lf) {M':Int->Int} {tab':Nat->Nat->Option Nat} {p:Nat} {v:Lf} (h:lf p=none) (H':PW M' root tab' (lfSet lf p (some v))):(pgs (lfSet lf p (some v))).Perm (p::pgs lf):=by
 refine (List.perm_ext_iff_of_nodup (pgs_nodup _) (List.nodup_cons.2 ⟨fun e=> ?_,pgs_nodup _⟩)).2 (fun q=> ?_)
 . have:=(H.mem p).1 e;rw [h] at this;cases this
 . rw [H'.mem,List.mem_cons,H.mem]
   by_cases c:q=p
   . subst c;rw [lf_same];simp
   . rw [lf_other c];simp [c]
theorem pgs_less (H:PW M root tab lf) {M':Int->Int} {tab':Nat->Nat->Option Nat} {p:Nat} {v:Lf} (h:lf p=some v) (H':PW M' root tab' (lfSet lf p none)):(pgs lf).Perm (p::pgs (lfSet lf p none)):=by
 refine (List.perm_ext_iff_of_nodup (pgs_nodup _) (List.nodup_cons.2 ⟨fun e=> ?_,pgs_nodup _⟩)).2 (fun q=> ?_)
 . have:=(H'.mem p).1 e;rw [lf_same] at this;cases this
 . rw [H.mem,List.mem_cons,H'.mem]
   by_cases c:q=p
   . subst c;rw [h];simp
   . rw [lf_other c];simp [c]
end
theorem pgs_none:pgs (fun _=>none)=[]:=by
 apply List.eq_nil_iff_forall_not_mem.2
 intro p hp
 have:=((mem_pg _ p 4 0).1 hp).2
 cases this
end Go.Proofs.YtkiclbnbnjbcaaaDoor.Tt
namespace Go.Proofs.YtkiclbnbnjbcaaaDoor.Tt
open Go.ChangeShapes Go.WideShapes Go.ChangeAt Go.RowKit Go.Maps
set_option linter.unusedSimpArgs false
set_option linter.unusedVariables false
set_option maxRecDepth 8000
structure UM (m:Pm) (s:Ps) (k root:Nat) (tab:Nat->Nat->Option Nat) (lf:Nat->Option Lf) (p d:Nat) (s':Ps) (tab':Nat->Nat->Option Nat):Prop where
 pw:PW s'.M root tab' (lfSet lf p none)
 lo:Lo tab' (lfSet lf p none) p (d+1)
 ow: ∀ l x (f:Nat),tab' l x=some f->m.has f=true/\s'.G f=some 0/\ ¬ s'.Fr f
 old: ∀ l x f,tab' l x=some f->tab l x=some f
 way: ∀ l x,d<l->tab' l x=tab l x
 oth: ∀ f:Nat,(∀ l x,tab l x≠some f)->s'.G f=s.G f/\(s'.Fr f↔s.Fr f)/\ ∀ j:Nat,j<512->En s'.M f j=En s.M f j
 live:(s'.T k).live=(s.T k).live
 used:(s'.T k).used=(s.T k).used-d
 tree: ∀ j,j≠k->s'.T j=s.T j
 nums: ∀ r u f,Nums m s k r u f->Nums m s' k (r+d) (u-d) (f+d)
 q:s'.q=s.q+2+2*d
 hi: ∀ j:Nat,256<=j->j<512->En s'.M root j=En s.M root j
theorem pack_zero:packV false false false false false false false false 0=0:=by decide
theorem UM.start {m:Pm} {s:Ps} {k root:Nat} {tab:Nat->Nat->Option Nat} {lf:Nat->Option Lf} (H:Rt m s root tab lf) {p g:Nat} (hg:tab 1 (p / 512)=some g) :
 UM m s k root tab lf p 0 { s with M:=enSet s.M g (atP p 3) 0,q:=s.q+2 } tab:=by
 refine ⟨?_,Lo.start H.pw H.fu p,H.ow,fun _ _ _ e=>e,fun _ _ _=>rfl,fun f hf=>⟨rfl,Iff.rfl,fun j hj=> ?_⟩,rfl,?_,fun _ _=>rfl,fun r u f hn=> ?_,rfl,fun j h1 hj=> ?_⟩
 . exact H.pw.delLeaf hg
 . have fg:f≠g:=fun q=>hf _ _ (by rw [q];exact hg)
   exact en_other s.M _ (at_bd p 3).1 (at_bd p 3).2 (by omega) (by omega) (Or.inl (by omega))
 . show (s.T k).used=(s.T k).used-((0:Nat):Int);omega
 . obtain ⟨a,b,c,d,e⟩:=hn
   exact ⟨a,b,by show (s.T k).room=r+((0:Nat):Int);omega,by show (s.T k).used=u-((0:Nat):Int);omega,e⟩
 . have ne:root≠g:=fun q=>by
    have:=(H.pw.inj 4 0 1 (p / 512) root H.pw.t4 (by rw [hg,q])).1
    omega
   exact en_other s.M _ (at_bd p 3).1 (at_bd p 3).2 (by omega) (by omega) (Or.inl (by omega))
theorem UM.step {m:Pm} {s s':Ps} {k root:Nat} {tab tab':Nat->Nat->Option Nat} {lf:Nat->Option Lf} {p d:Nat} (U:UM m s k root tab lf p d s' tab') (d2:d<=2) {f g:Nat} (f6:f<1000000) (hf:tab' (d+1) (pre (d+1) p)=some f) (hg:tab' (d+2) (pre (d+2) p)=some g) (fz: ∀ i:Nat,i<512->En s'.M f i=0) :
 UM m s k root tab lf p (d+1) { giveS s' k f with M:=enSet s'.M g (pre (d+1) p % 512:Nat) 0,q:=s'.q+2 } (tabSet tab' (d+1) (pre (d+1) p) none):=by
 have hF:=(U.ow _ _ _ hf).2.2
 have eu:usedT s'.T k (-1) k=(s'.T k).plus (-1):=used_at _ _ _
 refine ⟨U.pw.delTab (by omega) hf hg fz,U.lo.step,ow_give (s:=s') (k:=k) U.pw U.ow hf,fun l x f' e=> ?_,fun l x hl=> ?_,fun f' hf'=> ?_,?_,?_,fun j hj=> ?_,fun r u n hn=> ?_,?_,fun j h1 hj=> ?_⟩
 . by_cases c:l=d+1/\x=pre (d+1) p
   . obtain ⟨rfl,rfl⟩:=c
     rw [tab_same] at e;cases e
   . rw [tab_other c] at e;exact U.old l x f' e
 . rw [tab_other (by omega)];exact U.way l x (by omega)
 . obtain ⟨a,b,c⟩:=U.oth f' hf'
   have ff:f'≠f:=fun q=>hf' _ _ (by rw [q];exact U.old _ _ _ hf)
   have fg:f'≠g:=fun q=>hf' _ _ (by rw [q];exact U.old _ _ _ hg)
   refine ⟨?_,?_,fun j hj=> ?_⟩
   . rw [<- a]
     show Bd.setF s'.G f none f'=s'.G f'
     exact Bd.set_other _ _ _ _ (by omega)
   . rw [<- b]
     show s'.Fr f'\/f'=f↔s'.Fr f'
     constructor
     . rintro (q | q)
       . exact q
       . exact absurd q ff
     . exact Or.inl
   . rw [<- c j hj]
     exact en_other s'.M _ (by omega) (by omega) (by omega) (by omega) (Or.inl (by omega))
 . show (usedT s'.T k (-1) k).live=_
   rw [eu];exact U.live
 . show (usedT s'.T k (-1) k).used=_
   rw [eu]
   show (s'.T k).used+ -1=_
   rw [U.used];omega
 . show usedT s'.T k (-1) j=s.T j
   unfold usedT
   rw [Qu.put_other _ _ _ _ hj];exact U.tree j hj
 . have q:=(U.nums r u n hn).give f6 hF (enSet s'.M g (pre (d+1) p % 512:Nat) 0) (s'.q+2)
   rw [show r+((d+1:Nat):Int)=r+(d:Int)+1 by omega,show u-((d+1:Nat):Int)=u-(d:Int)-1 by omega,show n+(d+1)=n+d+1 by omega]
   exact q
 . show s'.q+2=_
   rw [U.q];omega
 . rw [<- U.hi j h1 hj]
   show En (enSet s'.M g (pre (d+1) p % 512:Nat) 0) root j=_
   by_cases c:root=g
   . have e0:=(U.pw.inj 4 0 (d+2) (pre (d+2) p) root U.pw.t4 (by rw [hg,c])).1
     have x3:=(U.pw.dom _ _ _ hf).2.2.2 (by omega)
     exact en_other s'.M _ (by omega) (by omega) (by omega) (by omega) (Or.inr (by omega))
   . exact en_other s'.M _ (by omega) (by omega) (by omega) (by omega) (Or.inl (by omega))
theorem UM.fresh {m:Pm} {s s':Ps} {k root:Nat} {tab tab':Nat->Nat->Option Nat} {lf:Nat->Option Lf} {p d:Nat} (H:PW s.M root tab lf) (U:UM m s k root tab lf p d s' tab') (d3:d<=3) (fu:Full tab' (lfSet lf p none)) (hp:(lf p).isSome=true):d=fresh (pgs (lfSet lf p none)) p:=by
 have one: ∀ l,1<=l->l<=3->frL l (pgs (lfSet lf p none)) p=if l<=d then 1 else 0:=fun l l1 l3=>by
  rcases U.pw.frL fu p l1 l3 with ⟨a,b⟩ | ⟨⟨f,a⟩,b⟩
  . by_cases c:l<=d
    . rw [if_pos c,b]
    . obtain ⟨f,hf⟩:=H.has hp l1 l3
      rw [U.way l _ (by omega),hf] at a;cases a
  . by_cases c:l<=d
    . have:=U.lo.2 l l1 (by omega)
      rw [this] at a;cases a
    . rw [if_neg c,b]
 unfold Tt.fresh
 rw [one 1 (by omega) (by omega),one 2 (by omega) (by omega),one 3 (by omega) (by omega)]
 rcases (show d=0\/d=1\/d=2\/d=3 by omega) with rfl | rfl | rfl | rfl <;> simp
def Unmapped (X:Nat->Prop) (W:World) (m:Pm) (s:Ps) (k root:Nat) (tab:Nat->Nat->Option Nat) (lf:Nat->Option Lf) (p:Nat) (w':World):Prop :=
 ∃ (d:Nat) (s':Ps) (tab':Nat->Nat->Option Nat),d<=3/\Pu X w' m s'/\Kx X W w'/\UM m s k root tab lf p d s' tab'/\Rt m s' root tab' (lfSet lf p none)
structure UI (X Y:Nat->Prop) (W:World) (A T E g c:Nat) (m:Pm) (k:Nat) (at_:At) (L:List Nat) (C9:List Value) (n:Nat) (s':Ps) (w:World):Prop where
 pu:Pu Y w m s'
 kx:Kx X W w
 bA:Blk w A [pp m.rb,pp m.b,pp m.tb,.int .i64 k] 27
 bT:Blk w T [.int .i64 (at_ 0),.int .i64 (at_ 1),.int .i64 (at_ 2),.int .i64 (at_ 3),.slice (some ⟨g,0,none⟩) n c] 134
 bE:Blk w E C9 90
 ir:IR w g L
 y:Y A/\Y T/\Y E/\Y g
 ne:T≠A/\T≠E/\T≠g/\T≠0
 xy: ∀ j,X j->Y j/\j≠T
theorem UI.step {X Y:Nat->Prop} {W w w':World} {A T E g c:Nat} {m:Pm} {k:Nat} {at_:At} {L:List Nat} {C9:List Value} {n:Nat} {s' s2:Ps} (H:UI X Y W A T E g c m k at_ L C9 n s' w) (hp:Pu Y w' m s2) (hk:Kx Y w w'):UI X Y W A T E g c m k at_ L C9 n s2 w' :=
 ⟨hp,H.kx.trans (hk.sub (fun j hj=>(H.xy j hj).1)),H.bA.kx hk H.y.1,H.bT.kx hk H.y.2.1,H.bE.kx hk H.y.2.2.1,H.ir.kx hk H.y.2.2.2,H.y,H.ne,H.xy⟩
theorem UI.cut {X Y:Nat->Prop} {W w:World} {A T E g c:Nat} {m:Pm} {k:Nat} {at_:At} {L:List Nat} {C9:List Value} {n:Nat} {s':Ps} (H:UI X Y W A T E g c m k at_ L C9 n s' w) (n':Nat):UI X Y W A T E g c m k at_ L C9 n' s' (w.setCell ⟨T,4,none⟩ (.slice (some ⟨g,0,none⟩) n' c)):=by
 have hg:w.grownBy (w.setCell ⟨T,4,none⟩ (.slice (some ⟨g,0,none⟩) n' c)) (some T):=Qu.grown_setCells T [.slice (some ⟨g,0,none⟩) n' c] 4 w
 have hb: ∀ j,j<w.heap.size->j≠T->(w.setCell ⟨T,4,none⟩ (.slice (some ⟨g,0,none⟩) n' c)).heap[j]? =w.heap[j]? :=fun j hj ne=>hg.block j hj (fun e=>ne (by have:=Option.some.inj e;omega))
 refine ⟨H.pu.poke H.y.2.1 H.ne.2.2.2 hg,?_,(hb A H.bA.lt (Ne.symm H.ne.1)).trans H.bA,H.bT.set 4 _,(hb E H.bE.lt (Ne.symm H.ne.2.1)).trans H.bE,⟨Nat.lt_of_lt_of_le H.ir.1 hg.size,fun i hi=> ?_⟩,H.y,H.ne,H.xy⟩
 . refine ⟨hg.os.trans H.kx.os,hg.tape.trans H.kx.tape,hg.output.trans H.kx.output,Nat.le_trans H.kx.size hg.size,fun j hj=> ?_⟩
   have q:=H.kx.block j hj
   have xj:=H.xy j hj
   by_cases l:j<w.heap.size
   . exact (hb j l xj.2).trans q
   . exact absurd (H.pu.lt j xj.1) l
 . rw [World.cell?_of_block (w:=w) (a:=⟨g,i,none⟩) (hb g H.ir.1 (Ne.symm H.ne.2.2.1))]
   exact H.ir.2 i hi
end Go.Proofs.YtkiclbnbnjbcaaaDoor.Tt
namespace Go.Proofs.YtkiclbnbnjbcaaaDoor.Tt
open Go.ChangeShapes Go.WideShapes Go.ChangeAt Go.RowKit Go.Maps
set_option linter.unusedSimpArgs false
set_option linter.unusedVariables false
set_option maxRecDepth 8000
set_option maxHeartbeats 2000000 in
theorem unmap_walk0 {W:World} {m:Pm} (k:Int) (root:Nat) (p:Int)
 (FC: ∀ w:World,Below W.heap.size W w->Calls Tryd.prog 62 #[pv m k,.int .i64 root,.int .i64 p] w fun e w'=> ∃ (t0 t1 t2 t3:Int) (po:Option Addr) (nn cc:Nat),e=.returned (.tuple #[.agg #[.int .i64 t0,.int .i64 t1,.int .i64 t2,.int .i64 t3,.slice po nn cc],.agg #[.bool false,.bool false,.bool false,.bool false,.bool false,.bool false,.bool false,.bool false,.int .i64 0]])/\Below w.heap.size w w') :
 Calls Tryd.prog 27 #[pv m k,.int .i64 root,.int .i64 p] W fun e w'=>e=.returned (.tuple #[.int .i64 0,.int .i64 5])/\Below W.heap.size W w':=by
 have FC:Hid (Calls Tryd.prog 62 #[pv m k,.int .i64 root,.int .i64 p] (W.alloc (.cells #[pp m.rb,pp m.b,pp m.tb,.int .i64 k] 27)) fun e w'=> ∃ (t0 t1 t2 t3:Int) (po:Option Addr) (nn cc:Nat),e=.returned (.tuple #[.agg #[.int .i64 t0,.int .i64 t1,.int .i64 t2,.int .i64 t3,.slice po nn cc],.agg #[.bool false,.bool false,.bool false,.bool false,.bool false,.bool false,.bool false,.bool false,.int .i64 0]])/\Below (W.alloc (.cells #[pp m.rb,pp m.b,pp m.tb,.int .i64 k] 27)).heap.size (W.alloc (.cells #[pp m.rb,pp m.b,pp m.tb,.int .i64 k] 27)) w'):=FC _ (Go.Joins.below_alloc1 _ _)
 have HB:Hid (Below W.heap.size W (W.alloc (.cells #[pp m.rb,pp m.b,pp m.tb,.int .i64 k] 27))):=Go.Joins.below_alloc1 _ _
 have BA:Hid (Blk (W.alloc (.cells #[pp m.rb,pp m.b,pp m.tb,.int .i64 k] 27)) W.heap.size [pp m.rb,pp m.b,pp m.tb,.int .i64 k] 27):=Blk.made W [pp m.rb,pp m.b,pp m.tb,.int .i64 k] 27
 go_enter Tryd.func27,Tryd.ntmps27
 go_upto_region 1 with fail
 generalize (W.alloc (.cells #[pp m.rb,pp m.b,pp m.tb,.int .i64 k] 27))=W1 at HB BA FC |-
 obtain ⟨A,hA⟩: ∃ A,W.heap.size=A:=⟨_,rfl⟩
 rw [hA] at BA |-
 clear hA
 have BX:=BA.out
 have c0:W1.cell? ⟨A,0,none⟩=some (pp m.rb):=BX.cell 0
 have c1:W1.cell? ⟨A,1,none⟩=some (pp m.b):=BX.cell 1
 have c2:W1.cell? ⟨A,2,none⟩=some (pp m.tb):=BX.cell 2
 have c3:W1.cell? ⟨A,3,none⟩=some (.int .i64 k):=BX.cell 3
 have lA:=BX.lt
 clear BX
 go_wp2_with fail
 refine Calls.mono FC.out ?_
 rintro e w1 ⟨t0,t1,t2,t3,po,nn,cc,rfl,hb1⟩
 obtain ⟨HV0,TH0⟩:=two_boxes w1 [.int .i64 t0,.int .i64 t1,.int .i64 t2,.int .i64 t3,.slice po nn cc] [.bool false,.bool false,.bool false,.bool false,.bool false,.bool false,.bool false,.bool false,.int .i64 0] rfl rfl
 obtain ⟨V,hV⟩: ∃ V,V=((((w1.alloc (.cells #[.int .i64 0,.int .i64 0,.int .i64 0,.int .i64 0,.slice none 0 0] 134)).alloc (.cells #[.bool false,.bool false,.bool false,.bool false,.bool false,.bool false,.bool false,.bool false,.int .i64 0] 90)).setCells w1.heap.size 0 [.int .i64 t0,.int .i64 t1,.int .i64 t2,.int .i64 t3,.slice po nn cc]).setCells (w1.heap.size+1) 0 [.bool false,.bool false,.bool false,.bool false,.bool false,.bool false,.bool false,.bool false,.int .i64 0]):=⟨_,rfl⟩
 have HV:Hid (Blk V w1.heap.size [.int .i64 t0,.int .i64 t1,.int .i64 t2,.int .i64 t3,.slice po nn cc] 134/\Blk V (w1.heap.size+1) [.bool false,.bool false,.bool false,.bool false,.bool false,.bool false,.bool false,.bool false,.int .i64 0] 90/\Below w1.heap.size w1 V):=by
  rw [<- hV] at HV0
  exact HV0
 have TH:Hid (((w1.alloc (.cells #[.int .i64 0,.int .i64 0,.int .i64 0,.int .i64 0,.slice none 0 0] 134)).alloc (.cells #[.bool false,.bool false,.bool false,.bool false,.bool false,.bool false,.bool false,.bool false,.int .i64 0] 90)).there w1.heap.size 0 5/\(((w1.alloc (.cells #[.int .i64 0,.int .i64 0,.int .i64 0,.int .i64 0,.slice none 0 0] 134)).alloc (.cells #[.bool false,.bool false,.bool false,.bool false,.bool false,.bool false,.bool false,.bool false,.int .i64 0] 90)).setCells w1.heap.size 0 [.int .i64 t0,.int .i64 t1,.int .i64 t2,.int .i64 t3,.slice po nn cc]).there (w1.heap.size+1) 0 9):=TH0
 clear HV0 TH0
 have BW:Hid (Below W.heap.size W V):=below_then (below_then HB.out hb1) HV.out.2.2
 clear hb1 HB BA FC c0 c1 c2 c3 lA
 rename_i hcont
 refine hcont _ _ ?_
 clear hcont
 iterate 15 go_step
 refine store_pat w1.heap.size 0 #[.int .i64 t0,.int .i64 t1,.int .i64 t2,.int .i64 t3,.slice po nn cc] rfl rfl TH.out.1 (by kernel_rfl) (by simp [Value.oneCell']) ?_
 refine store_pat (w1.heap.size+1) 0 #[.bool false,.bool false,.bool false,.bool false,.bool false,.bool false,.bool false,.bool false,.int .i64 0] rfl rfl TH.out.2 (by kernel_rfl) (by simp [Value.oneCell']) ?_
 simp only [List.toList_toArray]
 rw [<- hV]
 clear hV TH
 go_upto_region 2 with fail
 generalize w1.heap.size+1=E at HV |-
 generalize w1.heap.size=T at HV |-
 have e0:V.cell? ⟨E,0,none⟩=some (.bool false):=HV.out.2.1.cell 0
 have lE:=HV.out.2.1.lt
 clear HV
 go_wp2_with fail
 go_returns
 exact ⟨rfl,BW.out⟩
theorem unmap_bad (m:Pm) (k:Int) (root:Nat) (p:Int) (hbad: ¬ (0<=p/\p<34359738368)) (W:World) :
 Calls Tryd.prog 27 #[pv m k,.int .i64 root,.int .i64 p] W fun e w'=>e=.returned (.tuple #[.int .i64 0,.int .i64 5])/\Below W.heap.size W w':=by
 refine unmap_walk0 k root p (fun w _=>(find_bad m k root p hbad w).mono ?_)
 rintro e' w' ⟨rfl,hb'⟩
 exact ⟨_,_,_,_,_,_,_,rfl,hb'⟩
theorem unmap_none {X:Nat->Prop} {W:World} {m:Pm} {s:Ps} (h:Pu X W m s) {root:Nat} {tab:Nat->Nat->Option Nat} {lf:Nat->Option Lf} (H:Rt m s root tab lf) (k:Int) (p:Nat) (e:lf p=none) :
 Calls Tryd.prog 27 #[pv m k,.int .i64 root,.int .i64 p] W fun e w'=>e=.returned (.tuple #[.int .i64 0,.int .i64 5])/\Below W.heap.size W w':=by
 by_cases hp:p<34359738368
 . refine unmap_walk0 k root p (fun w hb=>(find_any (h.below hb) H k p hp).mono ?_)
   rintro e' w' ⟨g,c,n,L,y,rfl,⟨_,_,_,_,_,_,q | ⟨v,q,_⟩⟩,hb'⟩
   . rw [q.2,unp_zero]
     exact ⟨_,_,_,_,_,_,_,rfl,hb'⟩
   . rw [e] at q;cases q
 . exact unmap_bad m k root p (fun q=>hp (by omega)) W
end Go.Proofs.YtkiclbnbnjbcaaaDoor.Tt
namespace Go.Proofs.YtkiclbnbnjbcaaaDoor.Tt
open Go.ChangeShapes Go.WideShapes Go.ChangeAt Go.RowKit Go.Maps
set_option linter.unusedSimpArgs false
set_option linter.unusedVariables false
set_option maxRecDepth 8000
theorem ir_take {w:World} {g:Nat} {L:List Nat} (h:IR w g L) (n:Nat):IR w g (L.take n):=⟨h.1,fun i hi=>by
 rw [List.length_take] at hi
 rw [List.getElem_take]
 exact h.2 i (by omega)⟩
theorem link_cut {X:Nat->Prop} {W:World} {m:Pm} {s:Ps} (h:Pu X W m s) (hq:s.q<4611686018427387904) (k:Int) (at_:At) (g c:Nat) (L:List Nat) (l n:Nat) (hn:n=l+1) (hl:l<L.length) (l3:l<4) (hL:m.has (L[l]'hl:Nat)=true) (ha:0<=at_ l/\at_ l<512) (hr:IR W g L) (hg:X g) :
 Calls Tryd.prog 60 #[pv m k,tv at_ g n c,ev false false false false false false false false 0] W fun e w'=>e=.returned (.tuple #[])/\Pu X w' m { s with M:=enSet s.M (L[l]'hl:Nat) (at_ l) 0,q:=s.q+2 }/\Kx X W w':=by
 have hl2:(L.take n).length=l+1:=by rw [List.length_take];omega
 have e1:(L.take n)[l]'(by omega)=L[l]'hl:=List.getElem_take
 have q:=link_n h hq k at_ g c (L.take n) l n hn hl2 l3 (by rw [e1];exact hL) ha (ir_take hr n) hg false false false false false false false false 0 (by omega) (by omega)
 rw [e1,pack_zero] at q
 exact q
theorem clr_nz {M:Int->Int} (hM: ∀ t,0<=M t/\M t<256) {f:Int} (h:clr M f=false): ¬ ∀ i:Nat,i<512->En M f i=0:=fun q=>by
 rw [(clr_iff hM f).2 q] at h;cases h
set_option maxHeartbeats 4000000 in
theorem unmap_ok {X:Nat->Prop} {W:World} {m:Pm} {s:Ps} (h:Pu X W m s) {root:Nat} {tab:Nat->Nat->Option Nat} {lf:Nat->Option Lf} (H:Rt m s root tab lf) (k p:Nat) (v:Lf) (e:lf p=some v) (k6:k<64) (hl:(s.T k).live=true) (hu:3<=(s.T k).used) (hq:s.q<4000000000000000000) :
 Calls Tryd.prog 27 #[pv m k,.int .i64 root,.int .i64 p] W fun e w'=>e=.returned (.tuple #[.int .i64 v.f,.int .i64 0])/\Unmapped X W m s k root tab lf p w':=by
 have hp:=(H.pw.lf1 p v e).1
 obtain ⟨ff,hff⟩: ∃ ff,v.f=ff:=⟨_,rfl⟩
 obtain ⟨at_,hat⟩: ∃ at_,atP p=at_:=⟨_,rfl⟩
 have FC:Hid (Calls Tryd.prog 62 #[pv m k,.int .i64 root,.int .i64 p] (W.alloc (.cells #[pp m.rb,pp m.b,pp m.tb,.int .i64 k] 27)) fun e w'=> ∃ (g c:Nat) (L:List Nat) (b1 b2 b3 b4 b5 b6 b7:Bool),e=.returned (.tuple #[.agg #[.int .i64 (at_ 0),.int .i64 (at_ 1),.int .i64 (at_ 2),.int .i64 (at_ 3),.slice (some ⟨g,0,none⟩) 4 c],.agg #[.bool true,.bool b1,.bool b2,.bool b3,.bool b4,.bool b5,.bool b6,.bool b7,.int .i64 ff]])/\(IR w' g L/\L.length=4/\W.heap.size<g/\Trl tab p L/\4<=c)/\Below (W.alloc (.cells #[pp m.rb,pp m.b,pp m.tb,.int .i64 k] 27)).heap.size (W.alloc (.cells #[pp m.rb,pp m.b,pp m.tb,.int .i64 k] 27)) w'):=by
  refine (find_any (h.below (Go.Joins.below_alloc1 _ _)) H k p hp).mono ?_
  rintro e' w' ⟨g,c,n,L,y,rfl,⟨hr,hl,gl,ho,T,hh,q | ⟨v',q,mk,n4⟩⟩,hb'⟩
  . rw [e] at q;cases q.1
  . rw [e] at q
    cases q
    obtain ⟨hv,a,d,rfl⟩:=mk
    unfold leafV
    rw [unp_pack _ _ _ _ _ _ _ _ _ hv.1 hv.2,hff,n4,hat]
    refine ⟨_,_,L,_,_,_,_,_,_,_,rfl,⟨hr,by omega,?_,T,?_⟩,hb'⟩
    . rw [World.size_alloc] at gl;omega
    . obtain ⟨pf,cf,hv',lc,_⟩:=(Li.ol_ll Li.eI_len ho).form
      rw [List.length_map] at hv' lc
      cases hv'
      omega
 rw [hff]
 have HAT:Hid (at_=atP p):=hat.symm
 have HP:Hid (Pu X W m s):=h
 have HR:Hid (Rt m s root tab lf):=H
 have HPS:Hid ((lf p).isSome=true/\p<34359738368):=⟨by rw [e];rfl,hp⟩
 have HU:Hid (k<64/\(s.T k).live=true/\3<=(s.T k).used/\s.q<4000000000000000000):=⟨k6,hl,hu,hq⟩
 clear h H e hp hff hat k6 hl hu hq
 have HB:Hid (Below W.heap.size W (W.alloc (.cells #[pp m.rb,pp m.b,pp m.tb,.int .i64 k] 27))):=Go.Joins.below_alloc1 _ _
 have BA:Hid (Blk (W.alloc (.cells #[pp m.rb,pp m.b,pp m.tb,.int .i64 k] 27)) W.heap.size [pp m.rb,pp m.b,pp m.tb,.int .i64 k] 27):=Blk.made W [pp m.rb,pp m.b,pp m.tb,.int .i64 k] 27
 have S1:Hid ((W.alloc (.cells #[pp m.rb,pp m.b,pp m.tb,.int .i64 k] 27)).heap.size=W.heap.size+1):=World.size_alloc _ _
 go_enter Tryd.func27,Tryd.ntmps27
 go_upto_region 1 with fail
 generalize (W.alloc (.cells #[pp m.rb,pp m.b,pp m.tb,.int .i64 k] 27))=W1 at HB BA FC S1 |-
 obtain ⟨A,hA⟩: ∃ A,W.heap.size=A:=⟨_,rfl⟩
 have HA:Hid (A=W.heap.size):=hA.symm
 rw [hA] at BA |-
 clear hA
 have BX:=BA.out
 have c0:W1.cell? ⟨A,0,none⟩=some (pp m.rb):=BX.cell 0
 have c1:W1.cell? ⟨A,1,none⟩=some (pp m.b):=BX.cell 1
 have c2:W1.cell? ⟨A,2,none⟩=some (pp m.tb):=BX.cell 2
 have c3:W1.cell? ⟨A,3,none⟩=some (.int .i64 k):=BX.cell 3
 have lA:=BX.lt
 clear BX
 go_wp2_with fail
 refine Calls.mono FC.out ?_
 rintro e w1 ⟨g,c,L,b1,b2,b3,b4,b5,b6,b7,rfl,hF,hb1⟩
 have HL:Hid (L.length=4/\Trl tab p L):=⟨hF.2.1,hF.2.2.2.1⟩
 have c4:4<=c:=hF.2.2.2.2
 obtain ⟨HV0,TH0⟩:=two_boxes w1 [.int .i64 (at_ 0),.int .i64 (at_ 1),.int .i64 (at_ 2),.int .i64 (at_ 3),.slice (some ⟨g,0,none⟩) 4 c] [.bool true,.bool b1,.bool b2,.bool b3,.bool b4,.bool b5,.bool b6,.bool b7,.int .i64 ff] rfl rfl
 obtain ⟨V,hV⟩: ∃ V,V=((((w1.alloc (.cells #[.int .i64 0,.int .i64 0,.int .i64 0,.int .i64 0,.slice none 0 0] 134)).alloc (.cells #[.bool false,.bool false,.bool false,.bool false,.bool false,.bool false,.bool false,.bool false,.int .i64 0] 90)).setCells w1.heap.size 0 [.int .i64 (at_ 0),.int .i64 (at_ 1),.int .i64 (at_ 2),.int .i64 (at_ 3),.slice (some ⟨g,0,none⟩) 4 c]).setCells (w1.heap.size+1) 0 [.bool true,.bool b1,.bool b2,.bool b3,.bool b4,.bool b5,.bool b6,.bool b7,.int .i64 ff]):=⟨_,rfl⟩
 have HV:Hid (Blk V w1.heap.size [.int .i64 (at_ 0),.int .i64 (at_ 1),.int .i64 (at_ 2),.int .i64 (at_ 3),.slice (some ⟨g,0,none⟩) 4 c] 134/\Blk V (w1.heap.size+1) [.bool true,.bool b1,.bool b2,.bool b3,.bool b4,.bool b5,.bool b6,.bool b7,.int .i64 ff] 90/\Below w1.heap.size w1 V):=by
  rw [<- hV] at HV0
  exact HV0
 have TH:Hid (((w1.alloc (.cells #[.int .i64 0,.int .i64 0,.int .i64 0,.int .i64 0,.slice none 0 0] 134)).alloc (.cells #[.bool false,.bool false,.bool false,.bool false,.bool false,.bool false,.bool false,.bool false,.int .i64 0] 90)).there w1.heap.size 0 5/\(((w1.alloc (.cells #[.int .i64 0,.int .i64 0,.int .i64 0,.int .i64 0,.slice none 0 0] 134)).alloc (.cells #[.bool false,.bool false,.bool false,.bool false,.bool false,.bool false,.bool false,.bool false,.int .i64 0] 90)).setCells w1.heap.size 0 [.int .i64 (at_ 0),.int .i64 (at_ 1),.int .i64 (at_ 2),.int .i64 (at_ 3),.slice (some ⟨g,0,none⟩) 4 c]).there (w1.heap.size+1) 0 9):=TH0
 clear HV0 TH0
 have BW:Hid (Below W.heap.size W V):=below_then (below_then HB.out hb1) HV.out.2.2
 have U0:Hid (UI X (XW X W V) W A w1.heap.size (w1.heap.size+1) g c m k at_ L [.bool true,.bool b1,.bool b2,.bool b3,.bool b4,.bool b5,.bool b6,.bool b7,.int .i64 ff] 4 s V):=by
  have bw:Below W.heap.size W V:=below_then (below_then HB.out hb1) HV.out.2.2
  have z1:=HB.out.size
  have z2:=hb1.size
  have z3:=HV.out.2.2.size
  have z4:=hF.1.1
  have z5:=HV.out.1.lt
  have z6:=HV.out.2.1.lt
  have z7:=S1.out
  have z8:=HP.out.tab.1
  have a1:=HA.out
  refine ⟨HP.out.grow bw,Kx.of_below HP.out bw,(BA.out.below hb1).below HV.out.2.2,HV.out.1,HV.out.2.1,(hF.1.below HV.out.2.2),⟨Or.inr ⟨by omega,by omega⟩,Or.inr ⟨by omega,by omega⟩,Or.inr ⟨by omega,by omega⟩,Or.inr ⟨by have:=hF.2.2.1;omega,by omega⟩⟩,⟨by omega,by omega,by omega,by omega⟩,fun j hj=>⟨Or.inl hj,?_⟩⟩
  have:=HP.out.lt j hj
  omega
 clear hb1 HB BA FC c0 c1 c2 c3 lA S1
 rename_i hcont
 refine hcont _ _ ?_
 clear hcont
 iterate 15 go_step
 refine store_pat w1.heap.size 0 #[.int .i64 (at_ 0),.int .i64 (at_ 1),.int .i64 (at_ 2),.int .i64 (at_ 3),.slice (some ⟨g,0,none⟩) 4 c] rfl rfl TH.out.1 (by kernel_rfl) (by simp [Value.oneCell']) ?_
 refine store_pat (w1.heap.size+1) 0 #[.bool true,.bool b1,.bool b2,.bool b3,.bool b4,.bool b5,.bool b6,.bool b7,.int .i64 ff] rfl rfl TH.out.2 (by kernel_rfl) (by simp [Value.oneCell']) ?_
 simp only [List.toList_toArray]
 rw [<- hV]
 clear hV TH
 go_upto_region 2 with fail
 generalize w1.heap.size+1=E at HV U0 |-
 generalize w1.heap.size=T at HV U0 |-
 have e0:V.cell? ⟨E,0,none⟩=some (.bool true):=HV.out.2.1.cell 0
 have lE:=HV.out.2.1.lt
 clear HV hF
 have UU:=U0
 clear U0
 have LK0:Hid (Calls Tryd.prog 60 #[pv m k,.agg #[.int .i64 (at_ 0),.int .i64 (at_ 1),.int .i64 (at_ 2),.int .i64 (at_ 3),.slice (some ⟨g,0,none⟩) 4 c],ev false false false false false false false false 0] V fun e w'=>e=.returned (.tuple #[])/\ ∃ s':Ps,UI X (XW X W V) W A T E g c m k at_ L [.bool true,.bool b1,.bool b2,.bool b3,.bool b4,.bool b5,.bool b6,.bool b7,.int .i64 ff] 4 s' w'/\UM m s k root tab lf p 0 s' tab):=by
  have hl:=HL.out.1
  have tr:=HL.out.2
  have i3:tab 1 (pre 1 p)=some L[3]:=tr.is 3 _ (List.getElem?_eq_getElem (by omega))
  refine (link_cut UU.out.pu (by have:=HU.out.2.2.2;omega) k at_ g c L 3 4 rfl (by omega) (by omega) (HR.out.ow _ _ _ i3).1 (by rw [HAT.out];exact at_bd p 3) UU.out.ir UU.out.y.2.2.2).mono ?_
  rintro e w' ⟨he,hp',hk'⟩
  have u0:=UM.start (k:=k) HR.out (p:=p) (g:=L[3]) i3
  rw [<- HAT.out] at u0
  exact ⟨he,_,UU.out.step hp' hk',u0⟩
 have BT:=UU.out.bT
 have t0:V.cell? ⟨T,0,none⟩=some (.int .i64 (at_ 0)):=BT.cell 0
 have t1:V.cell? ⟨T,1,none⟩=some (.int .i64 (at_ 1)):=BT.cell 1
 have t2:V.cell? ⟨T,2,none⟩=some (.int .i64 (at_ 2)):=BT.cell 2
 have t3:V.cell? ⟨T,3,none⟩=some (.int .i64 (at_ 3)):=BT.cell 3
 have t4:V.cell? ⟨T,4,none⟩=some (.slice (some ⟨g,0,none⟩) 4 c):=BT.cell 4
 have lT:=BT.lt
 have BX:=UU.out.bA
 have c0:V.cell? ⟨A,0,none⟩=some (pp m.rb):=BX.cell 0
 have c1:V.cell? ⟨A,1,none⟩=some (pp m.b):=BX.cell 1
 have c2:V.cell? ⟨A,2,none⟩=some (pp m.tb):=BX.cell 2
 have c3:V.cell? ⟨A,3,none⟩=some (.int .i64 k):=BX.cell 3
 have lA:=BX.lt
 clear BX BT
 go_wp2_with fail
 refine Calls.mono LK0.out ?_
 rintro e w2 ⟨rfl,s0,hU0,hM0⟩
 have U0:Hid (UI X (XW X W V) W A T E g c m k at_ L [.bool true,.bool b1,.bool b2,.bool b3,.bool b4,.bool b5,.bool b6,.bool b7,.int .i64 ff] 4 s0 w2/\UM m s k root tab lf p 0 s0 tab):=⟨hU0,hM0⟩
 clear hU0 hM0 LK0 UU e0 lE t0 t1 t2 t3 t4 lT c0 c1 c2 c3 lA
 go_upto_region 5 with fail
 go_loopw [10] (fun _ w=> ∃ (n:Nat) (s':Ps) (tab':Nat->Nat->Option Nat),1<=n/\n<=4/\Hid (UI X (XW X W V) W A T E g c m k at_ L [.bool true,.bool b1,.bool b2,.bool b3,.bool b4,.bool b5,.bool b6,.bool b7,.int .i64 ff] n s' w)/\Hid (UM m s k root tab lf p (4-n) s' tab')) (fun _ w=>(match w.cell? ⟨T,4,none⟩ with | some (.slice _ n _)=>n | _=>0))
 case atStart=>exact ⟨4,s0,tab,by omega,by omega,U0.out.1,U0.out.2⟩
 case round =>
  clear U0
  obtain ⟨n,s',tab',n1,n4,UU,UMH⟩:=hrel
  have HM:Hid ((match wr.cell? ⟨T,4,none⟩ with | some (.slice _ n _)=>n | _=>0)=n):=by
   show _=_
   rw [UU.out.bT.cell 4];rfl
  by_cases cn:1<n
  rotate_left
  . obtain rfl:n=1:=by omega
    have FU:Hid (Full tab' (lfSet lf p none)):=Lo.done UMH.out.lo
    clear HM
    have t4:wr.cell? ⟨T,4,none⟩=some (.slice (some ⟨g,0,none⟩) 1 c):=UU.out.bT.cell 4
    have lT:=UU.out.bT.lt
    have e8:wr.cell? ⟨E,8,none⟩=some (.int .i64 ff):=UU.out.bE.cell 8
    have lE:=UU.out.bE.lt
    have PX:Hid (Unmapped X W m s k root tab lf p wr):=⟨_,s',tab',by omega,UU.out.pu.less (fun j hj=>(UU.out.xy j hj).1) HP.out.x0,UU.out.kx,UMH.out,⟨UMH.out.pw,FU.out,UMH.out.ow⟩⟩
    clear UU UMH FU
    go_wp2_with fail
    go_returns
    exact ⟨rfl,PX.out⟩
  obtain ⟨l,hl⟩: ∃ l,n=l+1:=⟨n-1,by omega⟩
  have l1:1<=l:=by omega
  have l3:l<=3:=by omega
  have HN:Hid (n=l+1):=hl
  obtain ⟨z,hz⟩: ∃ z,L[l]'(by have:=HL.out.1;omega)=z:=⟨_,rfl⟩
  have HZ:Hid (tab' (4-n+1) (pre (4-n+1) p)=some z):=by
   show _=_
   rw [UMH.out.way _ _ (by omega),show 4-n+1=4-l by omega,<- hz]
   exact HL.out.2.is l _ (List.getElem?_eq_getElem (by have:=HL.out.1;omega))
  have HH:Hid (m.has (z:Nat)=true/\s'.G z=some 0/\ ¬ s'.Fr z):=UMH.out.ow _ _ _ HZ.out
  have gz:wr.cell? ⟨g,l,none⟩=some (.int .i64 (z:Nat)):=by
   have q:=UU.out.ir.2 l (by have:=HL.out.1;omega)
   rw [hz] at q;exact q
  have lg:=UU.out.ir.1
  have d1:decide ((1:Int)<(n:Int))=true:=by simp;omega
  have d2:decide ((l:Int)<0)=false:=by simp
  have d3:decide ((l:Int)<(n:Int))=true:=by simp;omega
  have d4:IntKind.i64.wrap ((n:Int)-1)=(l:Int):=by simp only [IntKind.wrap_i64];omega
  have d5:l<n:=by omega
  have CLC:Hid (Calls Tryd.prog 63 #[pp m.rb,.int .i64 (z:Nat)] wr fun e w'=>e=.returned (.bool (clr s'.M z))/\w'=wr):=UU.out.pu.clear z HH.out.1
  obtain ⟨cl,hcl⟩: ∃ cl,clr s'.M z=cl:=⟨_,rfl⟩
  rw [hcl] at CLC
  have HCL:Hid (clr s'.M z=cl):=hcl
  have n4':n<=4:=n4
  clear hcl hl hz cn n1 n4
  have BT:=UU.out.bT
  have t0:wr.cell? ⟨T,0,none⟩=some (.int .i64 (at_ 0)):=BT.cell 0
  have t1:wr.cell? ⟨T,1,none⟩=some (.int .i64 (at_ 1)):=BT.cell 1
  have t2:wr.cell? ⟨T,2,none⟩=some (.int .i64 (at_ 2)):=BT.cell 2
  have t3:wr.cell? ⟨T,3,none⟩=some (.int .i64 (at_ 3)):=BT.cell 3
  have t4:wr.cell? ⟨T,4,none⟩=some (.slice (some ⟨g,0,none⟩) n c):=BT.cell 4
  have lT:=BT.lt
  have BX:=UU.out.bA
  have c0:wr.cell? ⟨A,0,none⟩=some (pp m.rb):=BX.cell 0
  have c1:wr.cell? ⟨A,1,none⟩=some (pp m.b):=BX.cell 1
  have c2:wr.cell? ⟨A,2,none⟩=some (pp m.tb):=BX.cell 2
  have c3:wr.cell? ⟨A,3,none⟩=some (.int .i64 k):=BX.cell 3
  have lA:=BX.lt
  clear BX BT
  go_upto_region 7 with fail
  go_wp2_with fail
  refine Calls.mono CLC.out ?_
  rintro e w3 ⟨rfl,rfl⟩
  clear CLC
  cases cl with
  | false =>
   have FU:Hid (Full tab' (lfSet lf p none)):=Lo.stop UMH.out.pw UMH.out.lo (by omega) (by have:=HN.out;omega) HZ.out (clr_nz UU.out.pu.byte HCL.out)
   clear HM HCL HZ HH gz lg d1 d2 d3 d4 d5 t0 t1 t2 t3 t4 lT c0 c1 c2 c3 lA
   have e8:w3.cell? ⟨E,8,none⟩=some (.int .i64 ff):=UU.out.bE.cell 8
   have lE:=UU.out.bE.lt
   have PX:Hid (Unmapped X W m s k root tab lf p w3):=⟨_,s',tab',by have:=HN.out;omega,UU.out.pu.less (fun j hj=>(UU.out.xy j hj).1) HP.out.x0,UU.out.kx,UMH.out,⟨UMH.out.pw,FU.out,UMH.out.ow⟩⟩
   clear UU UMH FU
   go_wp2_with fail
   go_returns
   exact ⟨rfl,PX.out⟩
  | true =>
   have EZ:Hid (∀ i:Nat,i<512->En s'.M z i=0):=(clr_iff UU.out.pu.byte z).1 HCL.out
   have GVC:Hid (Calls Tryd.prog 46 #[pv m k,.int .i64 (z:Nat)] w3 fun e w'=>e=.returned (.tuple #[])/\UI X (XW X W V) W A T E g c m k at_ L [.bool true,.bool b1,.bool b2,.bool b3,.bool b4,.bool b5,.bool b6,.bool b7,.int .i64 ff] n (giveS s' k z) w'):=by
    refine (give_any UU.out.pu k z HU.out.1 (by rw [UMH.out.live];exact HU.out.2.1) (by rw [UMH.out.used];have:=HU.out.2.2.1;omega) HH.out.2.1 HH.out.2.2).mono ?_
    rintro e w' ⟨he,hp',hk'⟩
    exact ⟨he,UU.out.step hp' hk'⟩
   clear gz lg HCL
   go_wp2_with fail
   refine Calls.mono GVC.out ?_
   rintro e w4 ⟨rfl,hU4⟩
   have U4:Hid (UI X (XW X W V) W A T E g c m k at_ L [.bool true,.bool b1,.bool b2,.bool b3,.bool b4,.bool b5,.bool b6,.bool b7,.int .i64 ff] n (giveS s' k z) w4):=hU4
   clear hU4 GVC UU t0 t1 t2 t3 t4 lT c0 c1 c2 c3 lA
   have UU:=U4
   clear U4
   have e1:decide ((l:Int)<=(c:Int))=true:=by simp;omega
   have e2: ¬ (l:Int)<0:=by omega
   have e3: ¬ c=0:=by omega
   have e4:l<=c:=by omega
   have e5:decide ((c:Int)<(l:Int))=false:=by simp;omega
   have e6: ¬ c<l:=by omega
   have U5:Hid (UI X (XW X W V) W A T E g c m k at_ L [.bool true,.bool b1,.bool b2,.bool b3,.bool b4,.bool b5,.bool b6,.bool b7,.int .i64 ff] l (giveS s' k z) (w4.setCell ⟨T,4,none⟩ (.slice (some ⟨g,0,none⟩) l c))):=UU.out.cut l
   have t4:w4.cell? ⟨T,4,none⟩=some (.slice (some ⟨g,0,none⟩) n c):=UU.out.bT.cell 4
   have z4:w4.frozen? ⟨T,4,none⟩=false:=UU.out.bT.free 4
   have lT:=UU.out.bT.lt
   clear UU
   go_upto_region 10 with fail
   generalize w4.setCell ⟨T,4,none⟩ (.slice (some ⟨g,0,none⟩) l c)=w5 at U5 |-
   clear t4 z4 lT e1 e2 e3 e4 e5 e6
   have UU:=U5
   clear U5
   have LK1:Hid (Calls Tryd.prog 60 #[pv m k,.agg #[.int .i64 (at_ 0),.int .i64 (at_ 1),.int .i64 (at_ 2),.int .i64 (at_ 3),.slice (some ⟨g,0,none⟩) l c],ev false false false false false false false false 0] w5 fun e w'=>e=.returned (.tuple #[])/\ ∃ (s2:Ps) (tab2:Nat->Nat->Option Nat),UI X (XW X W V) W A T E g c m k at_ L [.bool true,.bool b1,.bool b2,.bool b3,.bool b4,.bool b5,.bool b6,.bool b7,.int .i64 ff] l s2 w'/\UM m s k root tab lf p (4-l) s2 tab2):=by
    have hl:=HL.out.1
    have hn:=HN.out
    obtain ⟨l',rfl⟩: ∃ l',l=l'+1:=⟨l-1,by omega⟩
    have i2:tab' (4-n+2) (pre (4-n+2) p)=some (L[l']'(by omega)):=by
     rw [UMH.out.way _ _ (by omega),show 4-n+2=4-l' by omega]
     exact HL.out.2.is l' _ (List.getElem?_eq_getElem (by omega))
    have bz:=UU.out.pu.so.hb z HH.out.1
    have F1:=UU.out.pu.so.F1
    have um:=UMH.out.step (by omega) (by omega) HZ.out i2 EZ.out
    refine (link_cut UU.out.pu (by show s'.q<_;rw [UMH.out.q];have:=HU.out.2.2.2;omega) k at_ g c L l' (l'+1) rfl (by omega) (by omega) (UMH.out.ow _ _ _ i2).1 (by rw [HAT.out];exact at_bd p l') UU.out.ir UU.out.y.2.2.2).mono ?_
    rintro e w' ⟨he,hp',hk'⟩
    have ea:at_ l'=((pre (4-n+1) p % 512:Nat):Int):=by
     rw [HAT.out]
     show ((pre (3-l') p % 512:Nat):Int)=_
     rw [show 3-l'=4-n+1 by omega]
    rw [ea] at hp'
    rw [show 4-n+1=4-(l'+1) by omega] at um hp'
    exact ⟨he,_,_,UU.out.step hp' hk',um⟩
   have BT:=UU.out.bT
   have t0:w5.cell? ⟨T,0,none⟩=some (.int .i64 (at_ 0)):=BT.cell 0
   have t1:w5.cell? ⟨T,1,none⟩=some (.int .i64 (at_ 1)):=BT.cell 1
   have t2:w5.cell? ⟨T,2,none⟩=some (.int .i64 (at_ 2)):=BT.cell 2
   have t3:w5.cell? ⟨T,3,none⟩=some (.int .i64 (at_ 3)):=BT.cell 3
   have t4:w5.cell? ⟨T,4,none⟩=some (.slice (some ⟨g,0,none⟩) l c):=BT.cell 4
   have lT:=BT.lt
   have BX:=UU.out.bA
   have c0:w5.cell? ⟨A,0,none⟩=some (pp m.rb):=BX.cell 0
   have c1:w5.cell? ⟨A,1,none⟩=some (pp m.b):=BX.cell 1
   have c2:w5.cell? ⟨A,2,none⟩=some (pp m.tb):=BX.cell 2
   have c3:w5.cell? ⟨A,3,none⟩=some (.int .i64 k):=BX.cell 3
   have lA:=BX.lt
   clear BX BT
   go_wp2_with fail
   refine Calls.mono LK1.out ?_
   rintro e w6 ⟨rfl,s2,tab2,hU6,hM6⟩
   have U6:Hid (UI X (XW X W V) W A T E g c m k at_ L [.bool true,.bool b1,.bool b2,.bool b3,.bool b4,.bool b5,.bool b6,.bool b7,.int .i64 ff] l s2 w6):=hU6
   have M6:Hid (UM m s k root tab lf p (4-l) s2 tab2):=hM6
   have HM2:Hid ((match w6.cell? ⟨T,4,none⟩ with | some (.slice _ n _)=>n | _=>0)=l):=by
    show _=_
    rw [hU6.bT.cell 4];rfl
   clear hU6 hM6 LK1 UU t0 t1 t2 t3 t4 lT c0 c1 c2 c3 lA
   go_wp2_with fail
   go_roundw
   case rel=>exact ⟨l,s2,tab2,l1,by omega,U6,M6⟩
   case measure=>rw [HM2.out,HM.out];exact d5
end Go.Proofs.YtkiclbnbnjbcaaaDoor.Tt
namespace Go.Proofs.YtkiclbnbnjbcaaaDoor.Tt
open Go.ChangeShapes Go.WideShapes Go.ChangeAt Go.RowKit Go.Maps
set_option linter.unusedSimpArgs false
set_option linter.unusedVariables false
set_option maxRecDepth 8000
end Go.Proofs.YtkiclbnbnjbcaaaDoor.Tt
namespace Go.Proofs.YtkiclbnbnjbcaaaDoor.Tt
open Go.ChangeShapes Go.WideShapes Go.ChangeAt Go.RowKit Go.Maps
set_option linter.unusedSimpArgs false
set_option linter.unusedVariables false
set_option maxRecDepth 8000
theorem rise_eq: ∀ {a b:List Nat},a.Pairwise (· < ·)->b.Pairwise (· < ·)->(∀ x,x∈a↔x∈b)->a=b
 | [], [], _, _, _ => rfl
 | [], y :: b, _, _, h => absurd ((h y).2 List.mem_cons_self) List.not_mem_nil
 | x :: a, [], _, _, h => absurd ((h x).1 List.mem_cons_self) List.not_mem_nil
 | x :: a, y :: b, ha, hb, h => by
  have ha':=List.pairwise_cons.1 ha
  have hb':=List.pairwise_cons.1 hb
  have e:x=y:=by
   rcases List.mem_cons.1 ((h x).1 List.mem_cons_self) with q | q
   . exact q
   . rcases List.mem_cons.1 ((h y).2 List.mem_cons_self) with r | r
     . exact r.symm
     . have:=hb'.1 x q;have:=ha'.1 y r;omega
  subst e
  congr 1
  refine rise_eq ha'.2 hb'.2 (fun z=> ?_)
  constructor
  . intro hz
    rcases List.mem_cons.1 ((h z).1 (List.mem_cons_of_mem _ hz)) with q | q
    . have:=ha'.1 z hz;omega
    . exact q
  . intro hz
    rcases List.mem_cons.1 ((h z).2 (List.mem_cons_of_mem _ hz)) with q | q
    . have:=hb'.1 z hz;omega
    . exact q
end Go.Proofs.YtkiclbnbnjbcaaaDoor.Tt
namespace Go.Proofs.YtkiclbnbnjbcaaaDoor.Tt
open Go.ChangeShapes Go.WideShapes Go.ChangeAt Go.RowKit Go.Maps
set_option linter.unusedSimpArgs false
set_option linter.unusedVariables false
set_option maxRecDepth 8000
structure St (X:Nat->Prop) (m:Pm) (root k:Nat) (R U:Int) (F:Nat) (s:Ps) (tab:Nat->Nat->Option Nat) (lf:Nat->Option Lf) (w:World):Prop where
 pu:Pu X w m s
 rt:Rt m s root tab lf
 nm:Nums m s k (R-tabsN (pgs lf)) (U+tabsN (pgs lf)) (F-tabsN (pgs lf))
 tF:tabsN (pgs lf)<=F
section
variable {X:Nat->Prop} {m:Pm} {root k:Nat} {R U:Int} {F:Nat} {s:Ps} {tab:Nat->Nat->Option Nat} {lf:Nat->Option Lf} {W:World}
theorem St.below {w:World} (h:St X m root k R U F s tab lf W) (hb:Below W.heap.size W w):St X m root k R U F s tab lf w:=⟨h.pu.below hb,h.rt,h.nm,h.tF⟩
structure Apt (s s':Ps) (tab tab':Nat->Nat->Option Nat):Prop where
 oth: ∀ f:Nat,(∀ l x,tab l x≠some f)-> ¬ s.Fr f->s'.G f=s.G f/\ ¬ s'.Fr f/\ ∀ j:Nat,j<512->En s'.M f j=En s.M f j
 new: ∀ l x f,tab' l x=some f->tab l x=some f\/s.Fr f
 hi: ∀ f:Nat,tab 4 0=some f-> ∀ j:Nat,256<=j->j<512->En s'.M f j=En s.M f j
theorem Apt.refl (s:Ps) (tab:Nat->Nat->Option Nat):Apt s s tab tab:=⟨fun f _ h=>⟨rfl,h,fun _ _=>rfl⟩,fun _ _ _ e=>Or.inl e,fun _ _ _ _ _=>rfl⟩
def StTo (X:Nat->Prop) (m:Pm) (root k:Nat) (R U:Int) (F:Nat) (s:Ps) (tab:Nat->Nat->Option Nat) (lf':Nat->Option Lf) (W w':World):Prop :=
 ∃ (s':Ps) (tab':Nat->Nat->Option Nat),St X m root k R U F s' tab' lf' w'/\s'.q<=s.q+10/\Apt s s' tab tab'/\Kx X W w'
theorem St.same (h:St X m root k R U F s tab lf W) {w:World} (hb:Below W.heap.size W w):StTo X m root k R U F s tab lf W w:=⟨s,tab,h.below hb,by omega,Apt.refl _ _,Kx.of_below h.pu hb⟩
theorem St.map_ok (h:St X m root k R U F s tab lf W) (hF:R<=F\/10+tabsN (pgs lf)<=F) (hq:s.q<4000000000000000000) (p:Nat) (hp:p<34359738368) (fr:Int) (hfr:0<=fr/\fr<1048576) (pa pb pc:Bool) (ht:lf p=none) (hr:(tabsN (pgs lf)+fresh (pgs lf) p:Nat)<=R) :
 Calls Tryd.prog 26 #[pv m k,.int .i64 root,.int .i64 p,.int .i64 fr,.agg #[.bool pa,.bool pb,.bool pc]] W fun e w'=>e=.returned (.int .i64 0)/\StTo X m root k R U F s tab (lfSet lf p (some ⟨fr,pa,pb,pc⟩)) W w':=by
 have tF:=h.tF
 have ms:=h.rt.pw.miss h.rt.fu p
 refine (Tt.map_ok h.pu h.rt k (h.nm.box (by omega)) p hp fr hfr pa pb pc ht hq (by rw [h.nm.room,ms];omega)).mono ?_
 rintro e w' ⟨rfl,Lm,M6,tab6,hl6,IN6,hp6,hk6,pw6,fu6,new6,oth6,hi6⟩
 have N6:=h.nm.take h.pu.so IN6 M6 (s.q+10)
 have R6:=rt_mapped (k:=k) (q:=s.q+10) h.pu.so h.rt IN6 pw6 fu6 new6
 have pm:=pgs_more h.rt.pw ht pw6
 have tt:tabsN (pgs (lfSet lf p (some ⟨fr,pa,pb,pc⟩)))=tabsN (pgs lf)+fresh (pgs lf) p:=(tabs_perm pm).trans rfl
 have cn:=take_cnt h.pu.so k IN6
 have cf:=h.nm.free
 rw [hl6,ms] at N6
 rw [hl6,ms] at cn
 refine ⟨rfl,_,tab6,⟨hp6,R6,?_,by omega⟩,?_,⟨fun f hf hn=> ?_,fun l x f e=> ?_,fun f e j h1 hj=> ?_⟩,hk6⟩
 . rw [tt,show R-((tabsN (pgs lf)+fresh (pgs lf) p:Nat):Int)=R-(tabsN (pgs lf):Int)-(fresh (pgs lf) p:Int) by omega,show U+((tabsN (pgs lf)+fresh (pgs lf) p:Nat):Int)=U+(tabsN (pgs lf):Int)+(fresh (pgs lf) p:Int) by omega,show F-(tabsN (pgs lf)+fresh (pgs lf) p)=F-tabsN (pgs lf)-fresh (pgs lf) p by omega]
   exact N6
 . show s.q+10<=_;omega
 . have nl:f∉Lm:=fun q=>hn (IN6.2 f q)
   refine ⟨?_,fun q=>hn q.1,fun j hj=>oth6 f hf nl j hj⟩
   show (if 0<=(f:Int)/\(f:Int).toNat∈Lm then some 0 else s.G f)=s.G f
   rw [if_neg]
   rintro ⟨_,q⟩
   exact nl (by simpa using q)
 . rcases new6 l x f e with q | q
   . exact Or.inl q
   . exact Or.inr (IN6.2 f q)
 . rw [h.rt.pw.t4] at e;cases e;exact hi6 j h1 hj
theorem St.map_full (h:St X m root k R U F s tab lf W) (hF:R<=F\/10+tabsN (pgs lf)<=F) (p:Nat) (hp:p<34359738368) (fr:Int) (hfr:0<=fr/\fr<1048576) (pa pb pc:Bool) (ht:lf p=none) (h0:(tabsN (pgs lf):Nat)<=R) (hr:R<(tabsN (pgs lf)+fresh (pgs lf) p:Nat)) :
 Calls Tryd.prog 26 #[pv m k,.int .i64 root,.int .i64 p,.int .i64 fr,.agg #[.bool pa,.bool pb,.bool pc]] W fun e w'=>e=.returned (.int .i64 8)/\StTo X m root k R U F s tab lf W w':=by
 have tF:=h.tF
 have ms:=h.rt.pw.miss h.rt.fu p
 refine (Tt.map_full h.pu h.rt k (h.nm.box (by omega)) p hp fr hfr pa pb pc ht (by rw [h.nm.room,ms];omega) (by rw [h.nm.room];omega)).mono ?_
 rintro e w' ⟨rfl,hp',hk'⟩
 exact ⟨rfl,s,tab,⟨hp',h.rt,h.nm,h.tF⟩,by omega,Apt.refl _ _,hk'⟩
theorem St.map_there (h:St X m root k R U F s tab lf W) (p:Nat) (hp:p<34359738368) (fr:Int) (hfr:0<=fr/\fr<1048576) (pa pb pc:Bool) {v:Lf} (ht:lf p=some v) :
 Calls Tryd.prog 26 #[pv m k,.int .i64 root,.int .i64 p,.int .i64 fr,.agg #[.bool pa,.bool pb,.bool pc]] W fun e w'=>e=.returned (.int .i64 6)/\StTo X m root k R U F s tab lf W w':=by
 refine (Tt.map_there h.pu h.rt k p hp fr hfr pa pb pc (by rw [ht];simp)).mono ?_
 rintro e w' ⟨rfl,hb'⟩
 exact ⟨rfl,h.same hb'⟩
theorem St.map_arg (h:St X m root k R U F s tab lf W) (p fr:Int) (pa pb pc:Bool) (hb: ¬ (0<=p/\p<34359738368/\0<=fr/\fr<1048576)) :
 Calls Tryd.prog 26 #[pv m k,.int .i64 root,.int .i64 p,.int .i64 fr,.agg #[.bool pa,.bool pb,.bool pc]] W fun e w'=>e=.returned (.int .i64 1)/\StTo X m root k R U F s tab lf W w':=by
 refine (Tt.map_arg m k root p fr pa pb pc hb W).mono ?_
 rintro e w' ⟨rfl,hb'⟩
 exact ⟨rfl,h.same hb'⟩
theorem St.unmap_none (h:St X m root k R U F s tab lf W) (p:Int) (e: ¬ (0<=p/\p<34359738368)\/lf p.toNat=none) :
 Calls Tryd.prog 27 #[pv m k,.int .i64 root,.int .i64 p] W fun e w'=>e=.returned (.tuple #[.int .i64 0,.int .i64 5])/\StTo X m root k R U F s tab lf W w':=by
 by_cases hb:0<=p/\p<34359738368
 . obtain ⟨pn,rfl⟩:=Int.eq_ofNat_of_zero_le hb.1
   rw [Int.toNat_natCast] at e
   have e':lf pn=none:=by
    rcases e with e | e
    . exact absurd hb e
    . exact e
   refine (Tt.unmap_none h.pu h.rt k pn e').mono ?_
   rintro e w' ⟨rfl,hb'⟩
   exact ⟨rfl,h.same hb'⟩
 . refine (unmap_bad m k root p hb W).mono ?_
   rintro e w' ⟨rfl,hb'⟩
   exact ⟨rfl,h.same hb'⟩
theorem St.unmap_ok (h:St X m root k R U F s tab lf W) (hU:0<=U) (hq:s.q<4000000000000000000) (p:Nat) {v:Lf} (e:lf p=some v) :
 Calls Tryd.prog 27 #[pv m k,.int .i64 root,.int .i64 p] W fun e w'=>e=.returned (.tuple #[.int .i64 v.f,.int .i64 0])/\StTo X m root k R U F s tab (lfSet lf p none) W w':=by
 have tF:=h.tF
 have ne:pgs lf≠[]:=fun q=>by
  have:=(h.rt.pw.mem p).2 (by rw [e];rfl)
  rw [q] at this;cases this
 have t4:=tabs_four ne
 refine (Tt.unmap_ok h.pu h.rt k p v e h.nm.k6 h.nm.live (by rw [h.nm.used];omega) hq).mono ?_
 rintro e' w' ⟨rfl,d,s',tab',d3,hp',hk',um,rt'⟩
 have dd:=um.fresh h.rt.pw d3 rt'.fu (by rw [e];rfl)
 have pm:=pgs_less h.rt.pw e um.pw
 have tt:tabsN (pgs lf)=tabsN (pgs (lfSet lf p none))+d:=(tabs_perm pm).trans (by rw [dd];rfl)
 have nn:=um.nums _ _ _ h.nm
 have qq:=um.q
 refine ⟨rfl,s',tab',⟨hp',rt',?_,by omega⟩,by omega,⟨fun f hf hn=> ?_,fun l x f e=>Or.inl (um.old l x f e),fun f e j h1 hj=> ?_⟩,hk'⟩
 . rw [show R-((tabsN (pgs (lfSet lf p none)):Nat):Int)=R-(tabsN (pgs lf):Int)+(d:Int) by omega,show U+((tabsN (pgs (lfSet lf p none)):Nat):Int)=U+(tabsN (pgs lf):Int)-(d:Int) by omega,show F-tabsN (pgs (lfSet lf p none))=F-tabsN (pgs lf)+d by omega]
   exact nn
 . obtain ⟨a,b,c⟩:=um.oth f hf
   exact ⟨a,fun q=>hn (b.1 q),c⟩
 . rw [h.rt.pw.t4] at e;cases e;exact um.hi j h1 hj
theorem St.protect_none (h:St X m root k R U F s tab lf W) (p:Int) (pa pb pc:Bool) (e: ¬ (0<=p/\p<34359738368)\/lf p.toNat=none) :
 Calls Tryd.prog 41 #[pv m k,.int .i64 root,.int .i64 p,.agg #[.bool pa,.bool pb,.bool pc]] W fun e w'=>e=.returned (.int .i64 5)/\StTo X m root k R U F s tab lf W w':=by
 by_cases hb:0<=p/\p<34359738368
 . obtain ⟨pn,rfl⟩:=Int.eq_ofNat_of_zero_le hb.1
   rw [Int.toNat_natCast] at e
   have e':lf pn=none:=by
    rcases e with e | e
    . exact absurd hb e
    . exact e
   refine (Tt.protect_none h.pu h.rt k pn e' pa pb pc).mono ?_
   rintro e w' ⟨rfl,hb'⟩
   exact ⟨rfl,h.same hb'⟩
 . refine (protect_bad m k root p pa pb pc hb W).mono ?_
   rintro e w' ⟨rfl,hb'⟩
   exact ⟨rfl,h.same hb'⟩
theorem pgs_set {p:Nat} {v v':Lf} (h:lf p=some v):pgs (lfSet lf p (some v'))=pgs lf:=by
 refine rise_eq (pg_rising _ 4 0) (pg_rising _ 4 0) (fun q=> ?_)
 rw [mem_pg,mem_pg]
 by_cases c:q=p
 . subst c;rw [lf_same,h];simp
 . rw [lf_other c]
theorem St.protect_ok (h:St X m root k R U F s tab lf W) (hq:s.q<4000000000000000000) (p:Nat) (pa pb pc:Bool) {v:Lf} (e:lf p=some v) :
 Calls Tryd.prog 41 #[pv m k,.int .i64 root,.int .i64 p,.agg #[.bool pa,.bool pb,.bool pc]] W fun e w'=>e=.returned (.int .i64 0)/\StTo X m root k R U F s tab (lfSet lf p (some ⟨v.f,pa,pb,pc⟩)) W w':=by
 refine (Tt.protect_ok h.pu h.rt k p v e pa pb pc hq).mono ?_
 rintro e' w' ⟨rfl,M',hp',hk',rt',oth',hi'⟩
 refine ⟨rfl,_,tab,⟨hp',rt',?_,by rw [pgs_set e];exact h.tF⟩,?_,⟨fun f hf hn=>⟨rfl,hn,fun j hj=>oth' f hf j hj⟩,fun _ _ _ e=>Or.inl e,fun f e j h1 hj=>(by rw [h.rt.pw.t4] at e;cases e;exact hi' j h1 hj)⟩,hk'⟩
 . rw [pgs_set e]
   obtain ⟨a,b,c,d,f⟩:=h.nm
   exact ⟨a,b,c,d,f⟩
 . show s.q+2<=_;omega
end
end Go.Proofs.YtkiclbnbnjbcaaaDoor.Tt
namespace Go.Proofs.YtkiclbnbnjbcaaaDoor.Tt
open Go.ChangeShapes Go.WideShapes Go.ChangeAt Go.RowKit Go.Maps
set_option linter.unusedSimpArgs false
set_option linter.unusedVariables false
set_option maxRecDepth 8000
abbrev Ac.val (s:Ac):Value:=.agg #[.int .i64 s.kd,.int .i64 s.pg,.int .i64 s.fr,.bool s.a,.bool s.b,.bool s.c]
theorem St.grow {X:Nat->Prop} {m:Pm} {root k:Nat} {R U:Int} {F:Nat} {s:Ps} {tab:Nat->Nat->Option Nat} {lf:Nat->Option Lf} {W w:World} (h:St X m root k R U F s tab lf W) (hb:Below W.heap.size W w):St (XW X W w) m root k R U F s tab lf w:=⟨h.pu.grow hb,h.rt,h.nm,h.tF⟩
def Bl (X:Nat->Prop) (m:Pm) (root:Nat) (P:List Nat) (i q:Nat) (w:World):Prop :=
 ∃ (s:Ps) (tab:Nat->Nat->Option Nat) (lf:Nat->Option Lf),St X m root 0 138 2 137 s tab lf w/\pgs lf=P.drop i/\s.q<=q
end Go.Proofs.YtkiclbnbnjbcaaaDoor.Tt
namespace Go.Proofs.YtkiclbnbnjbcaaaDoor.Tt
open Go.ChangeShapes Go.WideShapes Go.ChangeAt Go.RowKit Go.Maps
set_option linter.unusedSimpArgs false
set_option linter.unusedVariables false
set_option maxRecDepth 8000
end Go.Proofs.YtkiclbnbnjbcaaaDoor.Tt
