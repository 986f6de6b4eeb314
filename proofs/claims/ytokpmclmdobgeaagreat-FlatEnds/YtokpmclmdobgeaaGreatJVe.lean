import Derived.Test.YtokpmclmdobgeaaGreatZWe
import Derived.Test.YtokpmclmdobgeaaGreatJIe
import Derived.Test.YtokpmclmdobgeaaGreatJBe
set_option linter.unusedSimpArgs false
set_option linter.unusedVariables false
set_option maxRecDepth 8000
set_option maxHeartbeats 2000000
open Go.ChangeShapes Go.WideShapes Go.ChangeAt Go.RowKit Go.Maps
namespace Go.Proofs.YtokpmclmdobgeaaGreat.Fl
structure RL (L:List Re.Rg):Prop where
 can:Re.Can 0 L
 top:Re.endL 0 L<=34359738368
theorem cutR_is (r:Re.Rg) (a:Int) (h1:r.fr<=a) (h2:a<r.tt):cutR r a=(if r.fr<a then [r.upto a] else [])++(if a+1<r.tt then [r.from (a+1)] else []):=by
 have e:cutR r a=Re.withL (Re.withL (Re.withL [] (r.upto (min r.tt a))) Re.Rg.zero) (r.from (max r.fr (a+1))):=rfl
 rw [e,show min r.tt a=a by omega,show max r.fr (a+1)=a+1 by omega]
 have z: ∀ M,Re.withL M Re.Rg.zero=M:=fun M=>if_pos (by show (0:Int)<=0;omega)
 rw [z]
 have w1:Re.withL [] (r.upto a)=if r.fr<a then [r.upto a] else []:=by
  unfold Re.withL
  by_cases c:r.fr<a
  . rw [if_neg (by show ¬ a<=r.fr;omega),if_neg (by simp),if_pos c];rfl
  . rw [if_pos (by show a<=r.fr;omega),if_neg c]
 rw [w1]
 by_cases c:a+1<r.tt
 . rw [if_pos c]
   unfold Re.withL
   rw [if_neg (by show ¬ r.tt<=a+1;omega)]
   by_cases d:r.fr<a
   . rw [if_pos d,if_neg (by
      rintro ⟨_,j⟩
      have q:=(Re.joins_is j).1
      have q:a=a+1:=q
      omega)]
   . rw [if_neg d,if_neg (by simp)]
 . rw [if_neg c,List.append_nil]
   unfold Re.withL
   rw [if_pos (by show r.tt<=a+1;omega)]
theorem cutR_len (r:Re.Rg) (a:Int) (h1:r.fr<=a) (h2:a<r.tt):(cutR r a).length<=2:=by
 rw [cutR_is r a h1 h2]
 split <;> split <;> simp
theorem cut_mid (r:Re.Rg) (a:Int) (h1:r.fr<=a) (h2:a<r.tt) (B:List Re.Rg): ∀ (A:List Re.Rg) (e:Int),Re.Can e (A++r::B)->Re.Can e (A++(cutR r a++B))/\Re.endL e (A++(cutR r a++B))<=Re.endL e (A++r::B)/\(∀ x,Re.atR (A++(cutR r a++B)) x=if x=a then none else Re.atR (A++r::B) x)
 | [], e, h => by
  obtain ⟨⟨c1,c2⟩,c3,c4⟩:=h
  rw [cutR_is r a h1 h2]
  have lowB: ∀ x,x<r.tt->Re.atR B x=none:=fun x hx=>Re.at_low B r.tt x c3 hx
  have hb: ∀ c,B.head? =some c->r.tt<=c.fr:=fun c hc=>by
   cases B with
   | nil => cases hc
   | cons b B' => cases hc; exact c3.1.1
  by_cases d:r.fr<a
  . by_cases g:a+1<r.tt
    . rw [if_pos d,if_pos g]
      refine ⟨⟨⟨c1,d⟩,⟨⟨by show a<=a+1;omega,g⟩,c3,fun c hc=>c4 c hc⟩,fun c hc=> ?_⟩,Int.le_refl _,fun x=> ?_⟩
      . cases hc
        cases j:(r.upto a).joins (r.from (a+1)) with
        | false => rfl
        | true => have q := (Re.joins_is j).1; have q : a = a + 1 := q; omega
      . show (if r.fr<=x/\x<a then some r.att else if a+1<=x/\x<r.tt then some r.att else Re.atR B x)=if x=a then none else if r.fr<=x/\x<r.tt then some r.att else Re.atR B x
        by_cases xa:x=a
        . rw [if_pos xa,if_neg (by omega),if_neg (by omega),lowB x (by omega)]
        . rw [if_neg xa]
          by_cases x1:r.fr<=x/\x<a
          . rw [if_pos x1,if_pos (by omega)]
          . rw [if_neg x1]
            by_cases x2:a+1<=x/\x<r.tt
            . rw [if_pos x2,if_pos (by omega)]
            . rw [if_neg x2,if_neg (by omega)]
    . rw [if_pos d,if_neg g]
      have et:r.tt=a+1:=by omega
      refine ⟨⟨⟨c1,d⟩,?_,fun c hc=> ?_⟩,?_,fun x=> ?_⟩
      . show Re.Can a B
        cases B with
        | nil => trivial
        | cons b B' => exact ⟨⟨by have := c3.1.1; omega, c3.1.2⟩, c3.2⟩
      . cases j:(r.upto a).joins c with
        | false => rfl
        | true =>
         have q:=(Re.joins_is j).1
         have q:a=c.fr:=q
         have:=hb c hc
         omega
      . show Re.endL a B<=Re.endL r.tt B
        cases B with
        | nil => show a ≤ r.tt; omega
        | cons b B' => exact Int.le_refl _
      . show (if r.fr<=x/\x<a then some r.att else Re.atR B x)=if x=a then none else if r.fr<=x/\x<r.tt then some r.att else Re.atR B x
        by_cases xa:x=a
        . rw [if_pos xa,if_neg (by omega),lowB x (by omega)]
        . rw [if_neg xa]
          by_cases x1:r.fr<=x/\x<a
          . rw [if_pos x1,if_pos (by omega)]
          . rw [if_neg x1,if_neg (by omega)]
  . have ea:r.fr=a:=by omega
    by_cases g:a+1<r.tt
    . rw [if_neg d,if_pos g]
      refine ⟨⟨⟨by show e<=a+1;omega,g⟩,c3,fun c hc=>c4 c hc⟩,Int.le_refl _,fun x=> ?_⟩
      show (if a+1<=x/\x<r.tt then some r.att else Re.atR B x)=if x=a then none else if r.fr<=x/\x<r.tt then some r.att else Re.atR B x
      by_cases xa:x=a
      . rw [if_pos xa,if_neg (by omega),lowB x (by omega)]
      . rw [if_neg xa]
        by_cases x2:a+1<=x/\x<r.tt
        . rw [if_pos x2,if_pos (by omega)]
        . rw [if_neg x2,if_neg (by omega)]
    . rw [if_neg d,if_neg g]
      have et:r.tt=a+1:=by omega
      refine ⟨?_,?_,fun x=> ?_⟩
      . show Re.Can e B
        cases B with
        | nil => trivial
        | cons b B' => exact ⟨⟨by have := c3.1.1; omega, c3.1.2⟩, c3.2⟩
      . show Re.endL e B<=Re.endL r.tt B
        cases B with
        | nil => show e ≤ r.tt; omega
        | cons b B' => exact Int.le_refl _
      . show Re.atR B x=if x=a then none else if r.fr<=x/\x<r.tt then some r.att else Re.atR B x
        by_cases xa:x=a
        . rw [if_pos xa,lowB x (by omega)]
        . rw [if_neg xa,if_neg (by omega)]
 | c :: A, e, h => by
  obtain ⟨c1,c2,c3⟩:=h
  obtain ⟨i1,i2,i3⟩:=cut_mid r a h1 h2 B A c.tt c2
  refine ⟨⟨c1,i1,fun h hh=> ?_⟩,i2,fun x=> ?_⟩
  . cases A with
    | cons a' A' => exact c3 h hh
    | nil =>
     have cr:c.tt<=r.fr:=c2.1.1
     have jr:=c3 r rfl
     cases j:c.joins h with
     | false => rfl
     | true =>
      have q:=Re.joins_is j
      have hh:(cutR r a++B).head? =some h:=hh
      rw [cutR_is r a h1 h2] at hh
      by_cases d:r.fr<a
      . rw [if_pos d] at hh
        cases hh
        rw [Re.joins_upto] at j
        rw [j] at jr;cases jr
      . rw [if_neg d] at hh
        by_cases g:a+1<r.tt
        . rw [if_pos g] at hh
          cases hh
          have q1:c.tt=a+1:=q.1
          omega
        . rw [if_neg g] at hh
          have hh:B.head? =some h:=hh
          cases B with
          | nil => cases hh
          | cons b B' => cases hh; have := c2.2.1.1.1; have := q.1; omega
  . show (if c.fr<=x/\x<c.tt then some c.att else Re.atR (A++(cutR r a++B)) x)=if x=a then none else if c.fr<=x/\x<c.tt then some c.att else Re.atR (A++r::B) x
    rw [i3 x]
    have le:c.tt<=r.fr:=by
     have q:=Re.can_split A (r::B) c.tt c2
     have:=Re.can_end A c.tt q.1
     have:=q.2.1.1
     omega
    by_cases xa:x=a
    . rw [if_pos xa,if_pos xa,if_neg (by omega)]
    . rw [if_neg xa,if_neg xa]
theorem fst_cons (r:Re.Rg) (l:List Re.Rg) (x:Int):fstR (r::l) x=if hasR r x=true then 0 else fstR l x+1:=by
 unfold fstR
 rw [List.findIdx_cons]
 cases hasR r x <;> rfl
theorem has_iff (r:Re.Rg) (x:Int):hasR r x=true↔r.fr<=x/\x<r.tt:=by unfold hasR;simp
theorem at_fst: ∀ (L:List Re.Rg) (x:Int) (v:Re.Att),Re.atR L x=some v->fstR L x<L.length/\hasR (L.getD (fstR L x) Re.Rg.zero) x=true/\(∀ j,j<fstR L x->hasR (L.getD j Re.Rg.zero) x=false)/\(L.getD (fstR L x) Re.Rg.zero).att=v
 | [], x, v, h => by cases h
 | r :: l, x, v, h => by
  rw [fst_cons]
  by_cases c:r.fr<=x/\x<r.tt
  . have c':=(has_iff r x).2 c
    rw [if_pos c']
    have e:r.att=v:=by
     have h:(if r.fr<=x/\x<r.tt then some r.att else Re.atR l x)=some v:=h
     rw [if_pos c] at h;exact sia h
    exact ⟨Nat.succ_pos _,c',fun j hj=>absurd hj (Nat.not_lt_zero _),e⟩
  . have c': ¬ hasR r x=true:=fun q=>c ((has_iff r x).1 q)
    rw [if_neg c']
    have h:(if r.fr<=x/\x<r.tt then some r.att else Re.atR l x)=some v:=h
    rw [if_neg c] at h
    obtain ⟨i1,i2,i3,i4⟩:=at_fst l x v h
    refine ⟨Nat.succ_lt_succ i1,by rw [Re.getD_succ];exact i2,fun j hj=> ?_,by rw [Re.getD_succ];exact i4⟩
    cases j with
    | zero => show hasR r x = false; simpa using c'
    | succ j => rw [Re.getD_succ]; exact i3 j (by omega)
theorem find_at: ∀ (L:List Re.Rg) (x:Int),Re.atR L x=if (Re.findR L x).2=true then some (Re.findR L x).1.att else none
 | [], x => rfl
 | r :: l, x => by
  show (if r.fr<=x/\x<r.tt then some r.att else Re.atR l x)=if (if r.fr<=x/\x<r.tt then (r,true) else Re.findR l x).2=true then some (if r.fr<=x/\x<r.tt then (r,true) else Re.findR l x).1.att else none
  by_cases c:r.fr<=x/\x<r.tt
  . rw [if_pos c,if_pos c];rfl
  . rw [if_neg c,if_neg c];exact find_at l x
theorem take_mid (L:List Re.Rg) (i:Nat) (h:i<L.length):L.take i++L.getD i Re.Rg.zero::L.drop (i+1)=L:=by
 rw [List.getD_eq_getElem?_getD,List.getElem?_eq_getElem h,Option.getD_some,<- List.drop_eq_getElem_cons h,List.take_append_drop]
theorem RL.at_bd {L:List Re.Rg} (h:RL L) {x:Int} {v:Re.Att} (hx:Re.atR L x=some v):0<=x/\x<34359738368:=by
 constructor
 . exact bca fun c=>by rw [Re.at_low L 0 x h.can (by omega)] at hx;cases hx
 . exact bca fun c=>by rw [Re.at_high L 0 x h.can (by have:=h.top;omega)] at hx;cases hx
theorem RL.num {L:List Re.Rg} (h:RL L):Re.NumL L:=fun k hk=>by
 have q:=Re.can_idx L 0 h.can k hk
 have t:=h.top
 refine ⟨?_,by omega⟩
 have: ∀ (L:List Re.Rg) (e:Int),0<=e->Re.Can e L-> ∀ k,k<L.length->0<=(L.getD k Re.Rg.zero).fr:=fun L=>by
  induction L with
  | nil => intro e _ _ k hk; exact absurd hk (Nat.not_lt_zero _)
  | cons r l ih =>
   intro e he hc k hk
   cases k with
   | zero => have := hc.1.1; show 0 ≤ r.fr; omega
   | succ k => rw [Re.getD_succ]; exact ih r.tt (by have := hc.1; omega) hc.2.1 k (by simpa using hk)
 have:=this L 0 (Int.le_refl _) h.can k hk
 omega
theorem RL.one {L:List Re.Rg} (h:RL L) {k:Nat} (hk:k<L.length):Re.goodB [L.getD k Re.Rg.zero]=true:=by
 have q:=Re.can_idx L 0 h.can k hk
 have t:=h.top
 have e:L.take k++L.getD k Re.Rg.zero::L.drop (k+1)=L:=take_mid L k hk
 have c:=h.can
 rw [<- e] at c
 have s:=Re.can_split _ _ _ c
 have z:=Re.can_end _ _ s.1
 exact Re.can_good ⟨⟨by have:=s.2.1.1;omega,q.1⟩,trivial,fun c hc=>by cases hc⟩ (by show (L.getD k Re.Rg.zero).tt<=_;omega) (by show 1<=64;omega)
theorem RL.wout {L:List Re.Rg} (h:RL L) {a:Int} {v:Re.Att} (hx:Re.atR L a=some v):RL (wout L a (fstR L a))/\(∀ x,Re.atR (Fl.wout L a (fstR L a)) x=if x=a then none else Re.atR L x)/\(Fl.wout L a (fstR L a)).length<=L.length+1:=by
 obtain ⟨f1,f2,f3,f4⟩:=at_fst L a v hx
 obtain ⟨b1,b2⟩:=(has_iff _ _).1 f2
 have e:=take_mid L (fstR L a) f1
 have w:Fl.wout L a (fstR L a)=L.take (fstR L a)++(cutR (L.getD (fstR L a) Re.Rg.zero) a++L.drop (fstR L a+1)):=by unfold Fl.wout;rw [List.append_assoc]
 have q:=cut_mid (L.getD (fstR L a) Re.Rg.zero) a b1 b2 (L.drop (fstR L a+1)) (L.take (fstR L a)) 0 (by rw [e];exact h.can)
 rw [e,<- w] at q
 have ln:=cutR_len (L.getD (fstR L a) Re.Rg.zero) a b1 b2
 refine ⟨⟨q.1,Int.le_trans q.2.1 h.top⟩,q.2.2,?_⟩
 rw [w,List.length_append,List.length_append,List.length_take,List.length_drop]
 omega
theorem Given.of {P:Pr} {a:Int} {v:Re.Att} (h:RL P.L) (hx:Re.atR P.L a=some v) (w:Wayed P.G a) (ln:P.L.length<=99):Given P a (fstR P.L a):=by
 obtain ⟨f1,f2,f3,f4⟩:=at_fst P.L a v hx
 obtain ⟨b1,b2⟩:=(has_iff _ _).1 f2
 have bd:=h.at_bd hx
 exact ⟨bd.1,bd.2,w,f1,f2,f3,h.one f1,by have:=cutR_len (P.L.getD (fstR P.L a) Re.Rg.zero) a b1 b2;omega,by have:=(h.wout hx).2.2;omega⟩
def borP (L:List Re.Rg) (p:Int):Bool:=match Re.atR L p with
 | some v => v.2.2.2 == 1
 | none => false
theorem bor_some {L:List Re.Rg} {p:Int} {v:Re.Att} (h:Re.atR L p=some v):borP L p=(v.2.2.2==1):=by unfold borP;rw [h]
theorem bor_none {L:List Re.Rg} {p:Int} (h:Re.atR L p=none):borP L p=false:=by unfold borP;rw [h]
theorem bor_ex {L:List Re.Rg} {p:Int} (h:borP L p=true): ∃ v:Re.Att,Re.atR L p=some v/\v.2.2.2=1:=by
 unfold borP at h
 split at h
 . rename_i v hv;exact ⟨v,hv,by simpa using h⟩
 . cases h
def nD:List Int->Nat
 | [] => 0
 | x :: r => nD r + if x ∈ r then 0 else 1
theorem nD_perm {L L':List Int} (h:L.Perm L'):nD L=nD L':=by
 induction h with
 | nil => rfl
 | cons x p ih => rw [nD, nD, ih]; simp only [p.mem_iff]
 | swap x y l =>
  simp only [nD,List.mem_cons]
  by_cases a:x=y
  . subst a
    by_cases b:x∈l <;> simp [b]
  . have a': ¬ y=x:=fun e=>a e.symm
    by_cases b:x∈l <;> by_cases c:y∈l <;> simp [a,a',b,c]
 | trans _ _ a b => exact a.trans b
def nOwn (K:List Int) (L:List Re.Rg):Nat:=(K.filter fun p=> !borP L p).length
def cst (K:List Int) (L:List Re.Rg):Nat:=nOwn K L+(nD (K.map (· / 512))+nD (K.map (· / 262144))+nD (K.map (· / 134217728)))
theorem mem_way (K:List Int) (m y:Int):y∈K.map (· / m)↔wcnt K m y≠0:=by
 unfold wcnt
 rw [List.mem_map]
 constructor
 . rintro ⟨p,hp,e⟩ q
   have z:p∈K.filter fun p=>p / m==y:=List.mem_filter.2 ⟨hp,by simp [e]⟩
   rw [List.length_eq_zero_iff.1 q] at z;cases z
 . intro q
   cases h:K.filter fun p=>p / m==y with
   | nil => rw [h] at q; exact absurd rfl q
   | cons p r =>
    have z:p∈K.filter fun p=>p / m==y:=by rw [h];exact List.mem_cons_self
    obtain ⟨a,b⟩:=List.mem_filter.1 z
    exact ⟨p,a,by simpa using b⟩
theorem way_more (x:Int) (K:List Int) (m:Int):nD ((x::K).map (· / m))=nD (K.map (· / m))+if wcnt K m (x / m)=0 then 1 else 0:=by
 show nD (x / m::K.map (· / m))=_
 rw [nD]
 by_cases c:wcnt K m (x / m)=0
 . rw [if_pos c,if_neg (fun z=>(mem_way K m _).1 z c)]
 . rw [if_neg c,if_pos ((mem_way K m _).2 c)]
theorem own_more (x:Int) (K:List Int) (L:List Re.Rg):nOwn (x::K) L=nOwn K L+if borP L x=true then 0 else 1:=by
 unfold nOwn
 rw [List.filter_cons]
 cases borP L x <;> simp
theorem cst_perm {K K':List Int} (h:K.Perm K') (L:List Re.Rg):cst K L=cst K' L:=by
 unfold cst nOwn
 rw [(h.filter _).length_eq,nD_perm (h.map _),nD_perm (h.map _),nD_perm (h.map _)]
theorem cst_congr {K:List Int} {L L':List Re.Rg} (h: ∀ p,p∈K->borP L' p=borP L p):cst K L'=cst K L:=by
 unfold cst nOwn
 rw [List.filter_congr (fun p hp=>by rw [h p hp])]
theorem zz_opt (c:Nat):zz (wopt c)=((if c=0 then 1 else 0:Nat):Int):=by
 unfold zz;rw [wopt_getD]
 by_cases e:c=0
 . subst e;rfl
 . rw [if_neg (by omega),if_neg e];rfl
theorem yy_opt (c:Nat):yy (wopt (c+1))=((if c=0 then 1 else 0:Nat):Int):=by
 unfold yy;rw [wopt_getD]
 by_cases e:c=0
 . subst e;rfl
 . rw [if_neg (by omega),if_neg e];rfl
theorem cst_cons (x:Int) (K:List Int) (L:List Re.Rg):cst (x::K) L=cst K L+((if borP L x=true then 0 else 1)+((if wcnt K 512 (x / 512)=0 then 1 else 0)+(if wcnt K 262144 (x / 262144)=0 then 1 else 0)+(if wcnt K 134217728 (x / 134217728)=0 then 1 else 0))):=by
 unfold cst
 rw [own_more,way_more,way_more,way_more]
 omega
theorem cst_add {K:List Int} {F:Int->Option Nat} {G:Wy} (h:Ways K F G) (x:Int) (L:List Re.Rg) (b0:Nat) (hb:b0=if borP L x=true then 0 else 1):((cst (x::K) L:Nat):Int)=(cst K L:Nat)+costK b0 (x / 512) (x / 262144) (x / 134217728) G 3:=by
 have e:costK b0 (x / 512) (x / 262144) (x / 134217728) G 3=(b0:Nat)+zz (G 9 (x / 512))+zz (G 18 (x / 262144))+zz (G 27 (x / 134217728)):=rfl
 rw [e,h.g9,h.g18,h.g27,zz_opt,zz_opt,zz_opt,cst_cons,<- hb]
 omega
theorem cst_del {K:List Int} {F:Int->Option Nat} {G:Wy} (h:Ways K F G) {x:Int} (hx:x∈K) (L:List Re.Rg) (b0:Nat) (hb:b0=if borP L x=true then 0 else 1):((cst K L:Nat):Int)=(cst (K.erase x) L:Nat)+costD b0 (x / 512) (x / 262144) (x / 134217728) G 3:=by
 have e:costD b0 (x / 512) (x / 262144) (x / 134217728) G 3=(b0:Nat)+yy (G 9 (x / 512))+yy (G 18 (x / 262144))+yy (G 27 (x / 134217728)):=rfl
 rw [e,h.g9,h.g18,h.g27,wcnt_erase hx,wcnt_erase hx,wcnt_erase hx,if_pos rfl,if_pos rfl,if_pos rfl,yy_opt,yy_opt,yy_opt,cst_perm (List.perm_cons_erase hx),cst_cons,<- hb]
 omega
theorem charge_at {T:Nat->Qo.Nd} {k n:Int} (h:Qo.mayN T k n=0):(Qo.getN (Qo.chargeT T k n) k).used=(Qo.getN T k).used+n/\(Qo.getN (Qo.chargeT T k n) k).live=true:=by
 obtain ⟨a,b,c⟩:=Qo.may_zero h
 obtain ⟨j,rfl,j1,j2⟩:=Qo.live_in a
 have e:Qo.getN (Qo.chargeT T (j:Nat) n) (j:Nat)=(T j).plus n:=by
  unfold Qo.chargeT
  rw [if_pos h]
  unfold Qo.getN
  rw [if_pos (by omega),Int.toNat_natCast,Qo.put_same]
 rw [e,j2]
 rw [j2] at a
 exact ⟨rfl,a⟩
theorem put_get (T:Nat->Qo.Nd) (i:Nat) (l:Qo.Nd) (k:Int) (h:k≠(i:Int)):Qo.getN (Qo.putT T i l) k=Qo.getN T k:=by
 unfold Qo.getN
 by_cases c:0<=k/\k<64
 . rw [if_pos c,if_pos c,Qo.put_other _ _ _ _ (by omega)]
 . rw [if_neg c,if_neg c]
theorem live_bd {T:Nat->Qo.Nd} {i:Int} (h:(Qo.getN T i).live=true):0<=i/\i<64:=by
 obtain ⟨j,rfl,j1,_⟩:=Qo.live_in h
 omega
theorem charge_other {T:Nat->Qo.Nd} {i n k:Int} (h:k≠i):Qo.getN (Qo.chargeT T i n) k=Qo.getN T k:=by
 unfold Qo.chargeT
 split
 . rename_i c
   have:=live_bd (Qo.may_zero c).1
   exact put_get _ _ _ _ (by omega)
 . rfl
theorem credit_at {T:Nat->Qo.Nd} {k n:Int} (a:(Qo.getN T k).live=true) (b:0<=n) (c:n<=(Qo.getN T k).used):(Qo.getN (Qo.creditT T k n) k).used=(Qo.getN T k).used-n/\(Qo.getN (Qo.creditT T k n) k).live=true:=by
 have h:Qo.creditN T k n=0:=by
  unfold Qo.creditN
  rw [if_neg (by rw [a];simp),if_neg (by omega),if_neg (by omega)]
 obtain ⟨j,rfl,j1,j2⟩:=Qo.live_in a
 have e:Qo.getN (Qo.creditT T (j:Nat) n) (j:Nat)=(T j).plus (-n):=by
  unfold Qo.creditT
  rw [if_pos h]
  unfold Qo.getN
  rw [if_pos (by omega),Int.toNat_natCast,Qo.put_same]
 rw [e,j2]
 rw [j2] at a
 exact ⟨rfl,a⟩
theorem credit_other {T:Nat->Qo.Nd} {i n k:Int} (h:k≠i):Qo.getN (Qo.creditT T i n) k=Qo.getN T k:=by
 unfold Qo.creditT
 split
 . rename_i c
   have:=live_bd (Qo.credit_zero c).1
   exact put_get _ _ _ _ (by omega)
 . rfl
def SameU (l m:Qo.Nd):Prop:=l.used=m.used/\l.live=m.live
theorem end_other {T:Nat->Qo.Nd} {i k:Int} (h:k≠i):SameU (Qo.getN (Qo.endT T i) k) (Qo.getN T k):=by
 unfold Qo.endT
 split
 . rename_i c
   have b:=live_bd (Qo.end_zero c).1
   rw [put_get _ _ _ _ (by omega)]
   generalize (T i.toNat).par.toNat=p
   by_cases e:k=(p:Int)
   . subst e
     unfold Qo.getN
     by_cases c:0<=(p:Int)/\(p:Int)<64
     . rw [if_pos c,if_pos c,Int.toNat_natCast,Qo.put_same];exact ⟨rfl,rfl⟩
     . rw [if_neg c,if_neg c];exact ⟨rfl,rfl⟩
   . rw [put_get _ _ _ _ e];exact ⟨rfl,rfl⟩
 . exact ⟨rfl,rfl⟩
theorem child_other {T:Nat->Qo.Nd} {p q k:Int} (h:(Qo.getN T k).live=true):SameU (Qo.getN (Qo.childT T p q) k) (Qo.getN T k):=by
 unfold Qo.childT
 split
 . rename_i c
   obtain ⟨m,r,r1,r2,r3⟩:=Qo.child_zero c
   have pb:=live_bd (Qo.may_zero m).1
   obtain ⟨j,rfl,j1,j2⟩:=Qo.live_in h
   rw [r2,Int.toNat_natCast]
   have jr:j≠r:=fun e=>by rw [j2,e,r3] at h;cases h
   by_cases e:(j:Int)=p
   . subst e
     rw [Int.toNat_natCast]
     have:Qo.getN (Qo.putT (Qo.putT T r (Qo.Nd.new (j:Nat) q)) j ((T j).lend q)) (j:Nat)=(T j).lend q:=by
      unfold Qo.getN
      rw [if_pos (by omega),Int.toNat_natCast,Qo.put_same]
     rw [this,j2];exact ⟨rfl,rfl⟩
   . rw [put_get _ _ _ _ (by omega),put_get _ _ _ _ (by omega)];exact ⟨rfl,rfl⟩
 . exact ⟨rfl,rfl⟩
theorem child_at {T:Nat->Qo.Nd} {p q oi:Int} (h:Qo.childN T p q=0) (ho:Qo.childI T p q=oi):(Qo.getN (Qo.childT T p q) oi).used=0/\(Qo.getN (Qo.childT T p q) oi).live=true/\(Qo.getN T oi).live=false:=by
 obtain ⟨m,r,r1,r2,r3⟩:=Qo.child_zero h
 have pb:=live_bd (Qo.may_zero m).1
 have eo:oi=(r:Int):=by
  rw [<- ho]
  unfold Qo.childI
  rw [if_pos h];exact r2
 have pl:=(Qo.may_zero m).1
 obtain ⟨j,rfl,j1,j2⟩:=Qo.live_in pl
 have jr:j≠r:=fun e=>by rw [j2,e,r3] at pl;cases pl
 have e:Qo.getN (Qo.childT T (j:Nat) q) oi=Qo.Nd.new (j:Nat) q:=by
  unfold Qo.childT
  rw [if_pos h,r2,Int.toNat_natCast,Int.toNat_natCast,eo,put_get _ _ _ _ (by omega)]
  unfold Qo.getN
  rw [if_pos (by omega),Int.toNat_natCast,Qo.put_same]
 rw [e]
 refine ⟨rfl,rfl,?_⟩
 unfold Qo.getN
 rw [eo,if_pos (by omega),Int.toNat_natCast];exact r3
structure PA (T:Nat->Qo.Nd) (P:Pr):Prop where
 bor: ∀ p,borP P.L p=true->P.F p≠none
 live:(Qo.getN T P.k).live=true
 acc: ∃ K,Ways K P.F P.G/\(Qo.getN T P.k).used=1+(cst K P.L:Nat)
structure Acc (T:Nat->Qo.Nd) (A:Nat->Option Pr):Prop where
 pa: ∀ j P,A j=some P->PA T P
 inj: ∀ i j P R,A i=some P->A j=some R->P.k=R.k->i=j
theorem PA.same {T T':Nat->Qo.Nd} {P:Pr} (h:PA T P) (e:SameU (Qo.getN T' P.k) (Qo.getN T P.k)):PA T' P :=
 ⟨h.bor,e.2.trans h.live,by obtain ⟨K,a,b⟩:=h.acc;exact ⟨K,a,e.1.trans b⟩⟩
theorem Acc.one {T T':Nat->Qo.Nd} {A:Nat->Option Pr} (h:Acc T A) {d:Nat} {P:Pr} (hP:A d=some P) (P':Pr) (hk:P'.k=P.k) (hT: ∀ k,k≠P.k->(Qo.getN T k).live=true->SameU (Qo.getN T' k) (Qo.getN T k)) (ok:PA T' P'):Acc T' (setA A d (some P')):=by
 refine ⟨fun j R e=> ?_,fun i j R S e1 e2 q=> ?_⟩
 . by_cases c:j=d
   . subst c;rw [setA_same] at e;cases e;exact ok
   . rw [setA_other _ _ _ _ c] at e
     have z:=h.pa j R e
     exact z.same (hT _ (fun q=>c (h.inj j d R P e hP q)) z.live)
 . by_cases c:i=d
   . by_cases c':j=d
     . rw [c,c']
     . subst c
       rw [setA_same] at e1;cases e1
       rw [setA_other _ _ _ _ c'] at e2
       exact h.inj i j P S hP e2 (hk.symm.trans q)
   . rw [setA_other _ _ _ _ c] at e1
     by_cases c':j=d
     . subst c'
       rw [setA_same] at e2;cases e2
       exact h.inj i j R P e1 hP (q.trans hk)
     . rw [setA_other _ _ _ _ c'] at e2
       exact h.inj i j R S e1 e2 q
section
variable {T:Nat->Qo.Nd} {A:Nat->Option Pr}
theorem Acc.list (h:Acc T A) {d:Nat} {P:Pr} (hP:A d=some P) (P':Pr) (hk:P'.k=P.k) (hF:P'.F=P.F) (hG:P'.G=P.G) (hl: ∀ p,P.F p≠none->borP P'.L p=borP P.L p) (hb: ∀ p,borP P'.L p=true->P.F p≠none):Acc T (setA A d (some P')):=by
 have z:=h.pa d P hP
 obtain ⟨K,a,b⟩:=z.acc
 refine h.one hP P' hk (fun _ _ _=>⟨rfl,rfl⟩) ⟨fun p hp=>by rw [hF];exact hb p hp,by rw [hk];exact z.live,K,by rw [hF,hG];exact a,?_⟩
 rw [hk,cst_congr (fun p hp=>hl p ((a.mem p).1 hp))];exact b
theorem Acc.more (h:Acc T A) {d:Nat} {P:Pr} (hP:A d=some P) (L':List Re.Rg) (x:Int) (c:Nat) (b0:Nat) (hb:b0=if borP L' x=true then 0 else 1) (hF:P.F x=none) (hl: ∀ p,p≠x->borP L' p=borP P.L p) (hm:Qo.mayN T P.k (costK b0 (x / 512) (x / 262144) (x / 134217728) P.G 3)=0) (P':Pr)
 (hP':P'={ P with F:=put P.F x (some c),G:=bumpN (x / 512) (x / 262144) (x / 134217728) P.G 3,L:=L' }):Acc (Qo.chargeT T P.k (costK b0 (x / 512) (x / 262144) (x / 134217728) P.G 3)) (setA A d (some P')):=by
 subst hP'
 have z:=h.pa d P hP
 obtain ⟨K,a,b⟩:=z.acc
 have q:=charge_at hm
 refine h.one hP _ rfl (fun k hk _=>by rw [charge_other hk];exact ⟨rfl,rfl⟩) ⟨fun p hp=> ?_,q.2,x::K,a.add hF c,?_⟩
 . show put P.F x (some c) p≠none
   unfold put
   by_cases e:p=x
   . rw [if_pos e];simp
   . rw [if_neg e]
     exact z.bor p (by rw [<- hl p e];exact hp)
 . have nx:x∉K:=fun e=>(a.mem x).1 e hF
   have e1:=cst_add a x L' b0 hb
   have e2:cst K L'=cst K P.L:=cst_congr fun p hp=>hl p (fun e=>nx (e ▸ hp))
   have q1:=q.1
   show (Qo.getN (Qo.chargeT T P.k _) P.k).used=1+((cst (x::K) L':Nat):Int)
   rw [q1,b,e1,e2]
   omega
theorem PA.less {T:Nat->Qo.Nd} {P:Pr} (z:PA T P) (L':List Re.Rg) (x:Int) (b0:Nat) (hb:b0=if borP P.L x=true then 0 else 1) (hF:P.F x≠none) (hl: ∀ p,p≠x->borP L' p=borP P.L p) (hx:borP L' x=true->False) :
 PA (Qo.creditT T P.k (costD b0 (x / 512) (x / 262144) (x / 134217728) P.G 3)) { P with F:=put P.F x none,G:=sinkN (x / 512) (x / 262144) (x / 134217728) P.G 3,L:=L' }:=by
 obtain ⟨K,a,b⟩:=z.acc
 have mx:x∈K:=(a.mem x).2 hF
 have e1:=cst_del a mx P.L b0 hb
 have b1:(b0:Int)<=1:=by rw [hb];split <;> simp
 have bd:=costD_bd (b0:=(b0:Nat)) (x / 512) (x / 262144) (x / 134217728) P.G ⟨by omega,b1⟩ 3
 have e2:cst (K.erase x) L'=cst (K.erase x) P.L:=cst_congr fun p hp=>hl p (fun e=>by
  rw [e,a.nd.mem_erase_iff] at hp
  exact hp.1 rfl)
 generalize costD b0 (x / 512) (x / 262144) (x / 134217728) P.G 3=n at e1 bd |-
 have q:=credit_at (T:=T) (k:=P.k) (n:=n) z.live (by omega) (by omega)
 refine ⟨fun p hp=> ?_,q.2,K.erase x,a.del hF,?_⟩
 . show put P.F x none p≠none
   unfold put
   by_cases e:p=x
   . exact (hx (by rw [<- e];exact hp)).elim
   . rw [if_neg e];exact z.bor p (by rw [<- hl p e];exact hp)
 . show (Qo.getN (Qo.creditT T P.k n) P.k).used=1+((cst (K.erase x) L':Nat):Int)
   rw [q.1,b,e2]
   omega
theorem Acc.less (h:Acc T A) {d:Nat} {P:Pr} (hP:A d=some P) (L':List Re.Rg) (x:Int) (b0:Nat) (hb:b0=if borP P.L x=true then 0 else 1) (hF:P.F x≠none) (hl: ∀ p,p≠x->borP L' p=borP P.L p) (hx:borP L' x=true->False) :
 Acc (Qo.creditT T P.k (costD b0 (x / 512) (x / 262144) (x / 134217728) P.G 3)) (setA A d (some { P with F:=put P.F x none,G:=sinkN (x / 512) (x / 262144) (x / 134217728) P.G 3,L:=L' })) :=
 h.one hP _ rfl (fun k hk _=>by rw [credit_other hk];exact ⟨rfl,rfl⟩) ((h.pa d P hP).less L' x b0 hb hF hl hx)
theorem PA.run (f:Int) {T:Nat->Qo.Nd} {P:Pr} (z:PA T P) (m:Nat) (hb: ∀ x,f<=x->x<f+m->borP P.L x=false): ∀ n,n<=m->PA (unRun f (T,P) n).1 (unRun f (T,P) n).2/\(∀ k,k≠P.k->Qo.getN (unRun f (T,P) n).1 k=Qo.getN T k)
 | 0, _ => ⟨z, fun _ _ => rfl⟩
 | n + 1, hn => by
  obtain ⟨i1,i2⟩:=PA.run f z m hb n (by omega)
  have lk:=unRun_like f (T,P) n
  show PA (unStep (f+n) (unRun f (T,P) n)).1 (unStep (f+n) (unRun f (T,P) n)).2/\ ∀ k,k≠P.k->Qo.getN (unStep (f+n) (unRun f (T,P) n)).1 k=Qo.getN T k
  generalize unRun f (T,P) n=Z at i1 i2 lk |-
  obtain ⟨T1,R⟩:=Z
  have lL:R.L=P.L:=lk.L
  have lk':R.k=P.k:=lk.k
  unfold unStep
  by_cases c:R.F (f+n)=none
  . rw [if_pos c];exact ⟨i1,i2⟩
  . rw [if_neg c]
    have nb:borP R.L (f+n)=false:=by rw [lL];exact hb _ (by omega) (by omega)
    refine ⟨i1.less R.L (f+n) 1 (by rw [if_neg (by rw [nb];simp)]) c (fun _ _=>rfl) (fun e=>by rw [nb] at e;cases e),fun k hk=> ?_⟩
    have:=i2 k hk
    rw [<- this]
    exact credit_other (by rw [lk'];exact hk)
theorem Acc.unmap (h:Acc T A) {d:Nat} {P:Pr} (hP:A d=some P) (f:Int) (m:Nat) (L':List Re.Rg) (hb: ∀ x,f<=x->x<f+m->borP P.L x=false) (hl: ∀ p,borP L' p=if f<=p/\p<f+m then false else borP P.L p) :
 Acc (unRun f (T,P) m).1 (setA A d (some { (unRun f (T,P) m).2 with L:=L' })):=by
 obtain ⟨i1,i2⟩:=PA.run f (h.pa d P hP) m hb m (Nat.le_refl _)
 have lk:=unRun_like f (T,P) m
 have uf:=unRun_F f (T,P) m
 generalize unRun f (T,P) m=Z at i1 i2 lk uf |-
 obtain ⟨T1,R⟩:=Z
 have lL:R.L=P.L:=lk.L
 have lk':R.k=P.k:=lk.k
 have uf: ∀ x,R.F x=if f<=x/\x<f+m then none else P.F x:=uf
 obtain ⟨K,a,b⟩:=i1.acc
 refine h.one hP _ lk' (fun k hk _=>by rw [i2 k hk];exact ⟨rfl,rfl⟩) ⟨fun p hp=> ?_,i1.live,K,a,?_⟩
 . have hp:borP L' p=true:=hp
   rw [hl p] at hp
   by_cases c:f<=p/\p<f+m
   . rw [if_pos c] at hp;cases hp
   . rw [if_neg c] at hp
     exact i1.bor p (by show borP R.L p=true;rw [lL];exact hp)
 . show (Qo.getN T1 R.k).used=1+((cst K L':Nat):Int)
   rw [show cst K L'=cst K R.L from cst_congr fun p hp=> ?_]
   . exact b
   . have:=(a.mem p).1 hp
     have this:R.F p≠none:=this
     rw [uf p] at this
     rw [hl p,lL]
     by_cases c:f<=p/\p<f+m
     . rw [if_pos c] at this;exact absurd rfl this
     . rw [if_neg c]
theorem Acc.fin (h:Acc T A) {d:Nat} {P:Pr} (hP:A d=some P) (n:Int):Acc (Qo.endT (Qo.creditT T P.k n) P.k) (setA A d none):=by
 refine ⟨fun j R e=> ?_,fun i j R S e1 e2 q=> ?_⟩
 . by_cases c:j=d
   . subst c;rw [setA_same] at e;cases e
   . rw [setA_other _ _ _ _ c] at e
     have z:=h.pa j R e
     have ne:R.k≠P.k:=fun q=>c (h.inj j d R P e hP q)
     have a:=end_other (T:=Qo.creditT T P.k n) ne
     rw [credit_other ne] at a
     exact z.same a
 . by_cases c:i=d
   . subst c;rw [setA_same] at e1;cases e1
   . by_cases c':j=d
     . subst c';rw [setA_same] at e2;cases e2
     . rw [setA_other _ _ _ _ c] at e1
       rw [setA_other _ _ _ _ c'] at e2
       exact h.inj i j R S e1 e2 q
theorem Acc.tried (h:Acc T A) {k q oi:Int} (hc:Qo.childN T k q=0) (ho:Qo.childI T k q=oi):Acc (Qo.endT (Qo.childT T k q) oi) A:=by
 obtain ⟨a,b,c⟩:=child_at hc ho
 refine ⟨fun j R e=> ?_,h.inj⟩
 have z:=h.pa j R e
 have ne:R.k≠oi:=fun q=>by have:=z.live;rw [q,c] at this;cases this
 have x:=end_other (T:=Qo.childT T k q) ne
 have y:=child_other (p:=k) (q:=q) z.live
 exact z.same ⟨x.1.trans y.1,x.2.trans y.2⟩
theorem Acc.spawn (h:Acc T A) {k q oi:Int} (hc:Qo.childN T k q=0) (ho:Qo.childI T k q=oi) (hm:Qo.mayN (Qo.childT T k q) oi 1=0) (p:Nat) (N:Pr) (nk:N.k=oi) (nL:N.L=[]) (nF:N.F=fun _=>none) (nG:N.G=fun _ _=>none):Acc (Qo.chargeT (Qo.childT T k q) oi 1) (setA A p (some N)):=by
 obtain ⟨a,b,c⟩:=child_at hc ho
 have w:=charge_at hm
 have ne: ∀ j R,A j=some R->R.k≠oi:=fun j R e q=>by have:=(h.pa j R e).live;rw [q,c] at this;cases this
 have wn:Ways [] N.F N.G:=by
  rw [nF,nG]
  refine ⟨List.nodup_nil,fun p=> ?_,fun y=>rfl,fun y=>rfl,fun y=>rfl⟩
  exact ⟨fun h=>absurd h List.not_mem_nil,fun h=>absurd rfl h⟩
 refine ⟨fun j R e=> ?_,fun i j R S e1 e2 z=> ?_⟩
 . by_cases x:j=p
   . subst x;rw [setA_same] at e;cases e
     refine ⟨fun p hp=> ?_,by rw [nk];exact w.2,[],wn,?_⟩
     . rw [nL] at hp;cases hp
     . rw [nk,w.1,a,nL];rfl
   . rw [setA_other _ _ _ _ x] at e
     have z:=h.pa j R e
     have y:=child_other (p:=k) (q:=q) z.live
     refine z.same ?_
     rw [charge_other (ne j R e)];exact y
 . by_cases x:i=p
   . by_cases y:j=p
     . rw [x,y]
     . subst x
       rw [setA_same] at e1;cases e1
       rw [setA_other _ _ _ _ y] at e2
       exact absurd (z.symm.trans nk) (ne j S e2)
   . rw [setA_other _ _ _ _ x] at e1
     by_cases y:j=p
     . subst y
       rw [setA_same] at e2;cases e2
       exact absurd (z.trans nk) (ne i R e1)
     . rw [setA_other _ _ _ _ y] at e2
       exact h.inj i j R S e1 e2 z
structure Pok (P:Pr):Prop where
 rl:RL P.L
 ways: ∃ K,Ways K P.F P.G
 page: ∀ p,P.F p≠none->Re.atR P.L p≠none
 reg:RegOk P.st
def tkOf (g:Sh.Gr):List Sh.Gr:=if g.is=true/\g.tk=true then [g] else []
def tkL (I:Nat->Sh.Gr):Nat->List Sh.Gr
 | 0 => []
 | n + 1 => tkL I n ++ tkOf (I n)
def tkA (L:List Sh.Gr):List Sh.Gr:=L.flatMap tkOf
def Tok (A:Nat->Option Pr) (g:Sh.Gr):Prop:= ∃ (d:Nat) (P:Pr),g.dst=(d:Int)/\d<16/\A d=some P/\P.F g.att≠none/\ ∃ v:Re.Att,Re.atR P.L g.att=some v/\v.2.2.2=1
def toJ (G:List Sh.Gr) (j:Nat):Nat:=(G.filter fun g=>g.dst==(j:Int)).length
theorem toJ_cons (g:Sh.Gr) (G:List Sh.Gr) (j:Nat):toJ (g::G) j=toJ G j+if g.dst=(j:Int) then 1 else 0:=by
 unfold toJ
 rw [List.filter_cons]
 by_cases c:g.dst=(j:Int)
 . rw [if_pos (by simp [c]),if_pos c,List.length_cons]
 . rw [if_neg (by simp [c]),if_neg c];rfl
theorem toJ_le (g:Sh.Gr) (G:List Sh.Gr) (j:Nat):toJ G j<=toJ (g::G) j:=by rw [toJ_cons];omega
theorem toJ_len (G:List Sh.Gr) (j:Nat):toJ G j<=G.length:=List.length_filter_le _ _
structure TOk (A:Nat->Option Pr) (G:List Sh.Gr):Prop where
 ok: ∀ g,g∈G->Tok A g
 nd:(G.map fun g=>(g.dst,g.att)).Nodup
 len: ∀ j P,A j=some P->P.L.length+toJ G j<=94
theorem TOk.perm {A:Nat->Option Pr} {G H:List Sh.Gr} (h:TOk A G) (p:G.Perm H):TOk A H :=
 ⟨fun g hg=>h.ok g (p.mem_iff.2 hg),(p.map _).nodup_iff.1 h.nd,fun j P e=>by rw [show toJ H j=toJ G j from ((p.filter _).length_eq).symm];exact h.len j P e⟩
def Gok (A:Nat->Option Pr) (g:Sh.Gr):Prop:= ∃ f d:Nat,g.fr=(f:Int)/\g.dst=(d:Int)/\f<16/\d<16/\f≠d/\A f≠none/\A d≠none/\0<=g.pg/\g.pg<34359738368
structure Inw (s:Sa):Prop where
 good:Ca.Good s.Q
 who: ∀ j:Nat,(j:Int)∈s.Q.L↔s.A j≠none
 top: ∀ j,16<=j->s.A j=none
 zero:s.A 0≠none
 pok: ∀ j P,s.A j=some P->Pok P
 gok: ∀ k,k<256->(s.I k).is=true->Gok s.A (s.I k)
 par: ∃ rk:Nat->Nat,∀ j P,s.A j=some P->j≠0-> ∃ k:Nat,P.par=(k:Int)/\s.A k≠none/\rk k<rk j
 acc:Acc s.T s.A
theorem setA_ne {A:Nat->Option Pr} {d:Nat} {P P':Pr} (h:A d=some P) (j:Nat):setA A d (some P') j≠none↔A j≠none:=by
 by_cases e:j=d
 . subst e;rw [setA_same,h];simp
 . rw [setA_other _ _ _ _ e]
theorem Inw.one {s:Sa} (h:Inw s) {d:Nat} {P:Pr} (hP:s.A d=some P) (P':Pr) (hp:P'.par=P.par) (ok:Pok P') (T':Nat->Qo.Nd) (ac:Acc T' (setA s.A d (some P'))):Inw { s with T:=T',A:=setA s.A d (some P') }:=by
 refine ⟨h.good,fun j=>(h.who j).trans (setA_ne hP j).symm,fun j hj=> ?_,(setA_ne hP 0).2 h.zero,fun j R hR=> ?_,fun k hk hi=> ?_,?_,ac⟩
 . have:j≠d:=fun e=>by rw [e] at hj;rw [h.top d hj] at hP;cases hP
   show setA s.A d (some P') j=none
   rw [setA_other _ _ _ _ this];exact h.top j hj
 . have hR:setA s.A d (some P') j=some R:=hR
   by_cases e:j=d
   . subst e;rw [setA_same] at hR;cases hR;exact ok
   . rw [setA_other _ _ _ _ e] at hR;exact h.pok j R hR
 . obtain ⟨f,d',a1,a2,a3,a4,a5,a6,a7,a8⟩:=h.gok k hk hi
   exact ⟨f,d',a1,a2,a3,a4,a5,(setA_ne hP f).2 a6,(setA_ne hP d').2 a7,a8⟩
 . obtain ⟨rk,hr⟩:=h.par
   refine ⟨rk,fun j R hR j0=> ?_⟩
   have hR:setA s.A d (some P') j=some R:=hR
   have key: ∃ R0,s.A j=some R0/\R0.par=R.par:=by
    by_cases e:j=d
    . subst e;rw [setA_same] at hR;cases hR;exact ⟨P,hP,hp.symm⟩
    . rw [setA_other _ _ _ _ e] at hR;exact ⟨R,hR,rfl⟩
   obtain ⟨R0,h0,e0⟩:=key
   obtain ⟨k,b1,b2,b3⟩:=hr j R0 h0 j0
   exact ⟨k,by rw [<- e0];exact b1,(setA_ne hP k).2 b2,b3⟩
theorem give_step {s:Sa} (h:Inw s) {g:Sh.Gr} {G:List Sh.Gr} (t:TOk s.A (g::G)):GiveOk s g/\Inw (giveS s g)/\TOk (giveS s g).A G/\(∀ j,(giveS s g).A j≠none↔s.A j≠none)/\(giveS s g).I=s.I/\(giveS s g).Q=s.Q:=by
 obtain ⟨d,P,hd,d16,hP,hF,v,hv,hk⟩:=t.ok g (List.mem_cons_self)
 have pk:=h.pok d P hP
 have ln:=t.len d P hP
 rw [toJ_cons,if_pos hd] at ln
 obtain ⟨K,hK⟩:=pk.ways
 have gv:Given P g.att (fstR P.L g.att):=Given.of pk.rl hv (hK.wayed hF) (by omega)
 have ok:GiveOk s g:=fun _=>⟨d,P,hd,d16,hP,gv⟩
 refine ⟨ok,?_⟩
 cases ht:g.tk with
 | false =>
  rw [give_no s ht]
  exact ⟨h,⟨fun x hx=>t.ok x (List.mem_cons_of_mem _ hx),(List.nodup_cons.1 t.nd).2,fun j R e=>by have:=t.len j R e;have:=toJ_le g G j;omega⟩,fun _=>Iff.rfl,rfl,rfl⟩
 | true =>
  rw [give_at s ht hd hP]
  obtain ⟨w1,w2,w3⟩:=pk.rl.wout hv
  have p':Pok { P with F:=put P.F g.att none,G:=sinkN (g.att / 512) (g.att / 262144) (g.att / 134217728) P.G 3,L:=wout P.L g.att (fstR P.L g.att) }:=by
   refine ⟨w1,⟨_,hK.del hF⟩,fun p hp=> ?_,pk.reg⟩
   have hp:put P.F g.att none p≠none:=hp
   show Re.atR (wout P.L g.att (fstR P.L g.att)) p≠none
   unfold put at hp
   by_cases e:p=g.att
   . rw [if_pos e] at hp;exact absurd rfl hp
   . rw [if_neg e] at hp;rw [w2 p,if_neg e];exact pk.page p hp
  have ac:=h.acc.less hP (wout P.L g.att (fstR P.L g.att)) g.att 0 (by rw [if_pos (by rw [bor_some hv,hk];rfl)]) hF (fun p e=>by unfold borP;rw [w2 p,if_neg e]) (fun e=>by rw [bor_none (by rw [w2,if_pos rfl])] at e;cases e)
  refine ⟨h.one hP { P with F:=put P.F g.att none,G:=sinkN (g.att / 512) (g.att / 262144) (g.att / 134217728) P.G 3,L:=wout P.L g.att (fstR P.L g.att) } rfl p' _ ac,⟨fun x hx=> ?_,(List.nodup_cons.1 t.nd).2,fun j R e=> ?_⟩,fun j=>setA_ne hP j,rfl,rfl⟩
  . obtain ⟨d2,P2,b1,b2,b3,b4,v2,b5,b6⟩:=t.ok x (List.mem_cons_of_mem _ hx)
    by_cases e:d2=d
    . subst e
      rw [hP] at b3
      cases b3
      have ne:x.att≠g.att:=fun e=>(List.nodup_cons.1 t.nd).1 (List.mem_map.2 ⟨x,hx,by show (x.dst,x.att)=(g.dst,g.att);rw [b1,hd,e]⟩)
      refine ⟨d2,_,b1,b2,setA_same _ _ _,?_,v2,?_,b6⟩
      . show put P.F g.att none x.att≠none
        unfold put
        rw [if_neg ne];exact b4
      . show Re.atR (wout P.L g.att (fstR P.L g.att)) x.att=some v2
        rw [w2,if_neg ne];exact b5
    . exact ⟨d2,P2,b1,b2,by show setA s.A d _ d2=_;rw [setA_other _ _ _ _ e];exact b3,b4,v2,b5,b6⟩
  . by_cases c:j=d
    . subst c
      have e:setA s.A j _ j=some R:=e
      rw [setA_same] at e
      cases e
      show (wout P.L g.att (fstR P.L g.att)).length+toJ G j<=94
      omega
    . have e:setA s.A d _ j=some R:=e
      rw [setA_other _ _ _ _ c] at e
      have:=t.len j R e
      have:=toJ_le g G j
      omega
theorem give_all: ∀ (L:List Sh.Gr) (s:Sa) (G:List Sh.Gr),Inw s->(∀ g,g∈L->g.tk=true->g.is=true)->TOk s.A (tkA L++G)->GivesOk L s/\Inw (giveAll L s)/\TOk (giveAll L s).A G/\(∀ j,(giveAll L s).A j≠none↔s.A j≠none)/\(giveAll L s).I=s.I/\(giveAll L s).Q=s.Q
 | [], s, G, h, _, t => ⟨trivial, h, t, fun _ => Iff.rfl, rfl, rfl⟩
 | g :: r, s, G, h, hi, t => by
  have hi': ∀ g,g∈r->g.tk=true->g.is=true:=fun x hx=>hi x (List.mem_cons_of_mem _ hx)
  cases ht:g.tk with
  | false =>
   have e:tkA (g::r)=tkA r:=by
    show tkOf g++tkA r=_
    unfold tkOf
    rw [if_neg (by rw [ht];simp)];rfl
   rw [e] at t
   obtain ⟨a1,a2,a3,a4,a5,a6⟩:=give_all r s G h hi' t
   have eg:giveAll (g::r) s=giveAll r s:=by show giveAll r (giveS s g)=_;rw [give_no s ht]
   rw [eg]
   exact ⟨⟨fun q=>absurd q (by rw [ht];simp),(by rw [give_no s ht];exact a1)⟩,a2,a3,a4,a5,a6⟩
  | true =>
   have e:tkA (g::r)=g::tkA r:=by
    show tkOf g++tkA r=_
    unfold tkOf
    rw [if_pos ⟨hi g List.mem_cons_self ht,ht⟩];rfl
   rw [e,List.cons_append] at t
   obtain ⟨b1,b2,b3,b4,b5,b6⟩:=give_step h t
   obtain ⟨a1,a2,a3,a4,a5,a6⟩:=give_all r (giveS s g) G b2 hi' b3
   exact ⟨⟨b1,a1⟩,a2,a3,fun j=>(a4 j).trans (b4 j),a5.trans b5,a6.trans b6⟩
theorem tkL_low (I:Nat->Sh.Gr) (k:Nat) (g:Sh.Gr): ∀ n,n<=k->tkL (Sh.putT I k g) n=tkL I n
 | 0, _ => rfl
 | n + 1, h => by rw [tkL, tkL, tkL_low I k g n (by omega), Sh.put_other _ _ _ _ (by omega)]
theorem tkL_put (I:Nat->Sh.Gr) (k:Nat) (g:Sh.Gr): ∀ n,k<n->(tkL (Sh.putT I k g) n++tkOf (I k)).Perm (tkL I n++tkOf g)
 | 0, h => absurd h (Nat.not_lt_zero _)
 | n + 1, h => by
  rw [tkL,tkL]
  by_cases e:k=n
  . subst e
    rw [Sh.put_same,tkL_low I k g k (Nat.le_refl _),List.append_assoc,List.append_assoc]
    exact List.Perm.append_left _ List.perm_append_comm
  . rw [Sh.put_other _ _ _ _ (Ne.symm e)]
    have q:=tkL_put I k g n (by omega)
    have a:((tkL (Sh.putT I k g) n++tkOf (I n))++tkOf (I k)).Perm ((tkL (Sh.putT I k g) n++tkOf (I k))++tkOf (I n)):=by
     rw [List.append_assoc,List.append_assoc];exact List.Perm.append_left _ List.perm_append_comm
    have b:((tkL I n++tkOf g)++tkOf (I n)).Perm ((tkL I n++tkOf (I n))++tkOf g):=by
     rw [List.append_assoc,List.append_assoc];exact List.Perm.append_left _ List.perm_append_comm
    exact a.trans ((q.append_right _).trans b)
theorem tk_zero:tkOf Sh.Gr.zero=[]:=if_neg kh
theorem tkL_clr (n:Nat): ∀ (L:List Nat) (I:Nat->Sh.Gr),(∀ k,k∈L->k<n)->(tkA (Sh.goneL I L)++tkL (Sh.clrL I L) n).Perm (tkL I n)
 | [], I, _ => List.Perm.refl _
 | k :: r, I, h => by
  have q:=tkL_clr n r (Sh.putT I k Sh.Gr.zero) (fun x hx=>h x (List.mem_cons_of_mem _ hx))
  have p:=tkL_put I k Sh.Gr.zero n (h k List.mem_cons_self)
  rw [tk_zero,List.append_nil] at p
  show (tkOf (I k)++tkA (Sh.goneL (Sh.putT I k Sh.Gr.zero) r)++tkL (Sh.clrL (Sh.putT I k Sh.Gr.zero) r) n).Perm _
  rw [List.append_assoc]
  exact (List.Perm.append_left _ q).trans (List.perm_append_comm.trans p)
theorem clr_at: ∀ (L:List Nat) (I:Nat->Sh.Gr) (k:Nat),Sh.clrL I L k=if k∈L then Sh.Gr.zero else I k
 | [], I, k => by rw [if_neg List.not_mem_nil]; rfl
 | x :: r, I, k => by
  show Sh.clrL (Sh.putT I x Sh.Gr.zero) r k=_
  rw [clr_at r (Sh.putT I x Sh.Gr.zero) k]
  by_cases a:k∈r
  . rw [if_pos a,if_pos (List.mem_cons_of_mem _ a)]
  . rw [if_neg a]
    by_cases b:k=x
    . subst b;rw [Sh.put_same,if_pos List.mem_cons_self]
    . rw [Sh.put_other _ _ _ _ b,if_neg (by rw [List.mem_cons];rintro (c | c);exact b c;exact a c)]
theorem gone_mem: ∀ (L:List Nat) (I:Nat->Sh.Gr) (g:Sh.Gr),g∈Sh.goneL I L->g=Sh.Gr.zero\/ ∃ k,k∈L/\g=I k
 | [], I, g, h => absurd h List.not_mem_nil
 | x :: r, I, g, h => by
  have h:g∈I x::Sh.goneL (Sh.putT I x Sh.Gr.zero) r:=h
  rcases List.mem_cons.1 h with e | e
  . exact Or.inr ⟨x,List.mem_cons_self,e⟩
  . rcases gone_mem r _ g e with q | ⟨k,k1,k2⟩
    . exact Or.inl q
    . by_cases b:k=x
      . subst b;rw [Sh.put_same] at k2;exact Or.inl k2
      . rw [Sh.put_other _ _ _ _ b] at k2;exact Or.inr ⟨k,List.mem_cons_of_mem _ k1,k2⟩
theorem clear_inw {s:Sa} (h:Inw s) (t:TOk s.A (tkL s.I 256)) (i:Nat):Inw (clrI s i)/\TOk (clrI s i).A (tkA (goneI s i)++tkL (clrI s i).I 256)/\(∀ g,g∈goneI s i->g.tk=true->g.is=true)/\(∀ k,k<256->((clrI s i).I k).is=true->((clrI s i).I k).fr≠(i:Nat)/\((clrI s i).I k).dst≠(i:Nat)):=by
 have ml:=fun k=>Sh.mem_of s.I (i:Nat) k 256
 unfold goneI clrI
 generalize Sh.ofL s.I (i:Nat) 256=L at ml |-
 refine ⟨⟨h.good,h.who,h.top,h.zero,h.pok,fun k hk hi=> ?_,h.par,h.acc⟩,t.perm (tkL_clr 256 L s.I fun k hk=>((ml k).1 hk).1).symm,fun g hg ht=> ?_,fun k hk hi=> ?_⟩
 . have hi:(Sh.clrL s.I L k).is=true:=hi
   show Gok s.A (Sh.clrL s.I L k)
   rw [clr_at] at hi |-
   by_cases a:k∈L
   . rw [if_pos a] at hi;cases hi
   . rw [if_neg a] at hi |-;exact h.gok k hk hi
 . rcases gone_mem L s.I g hg with e | ⟨k,k1,k2⟩
   . rw [e] at ht;cases ht
   . have q:=((ml k).1 k1).2
     unfold Sh.ofP at q
     rw [Bool.and_eq_true] at q
     rw [k2];exact q.1
 . have hi:(Sh.clrL s.I L k).is=true:=hi
   show (Sh.clrL s.I L k).fr≠_/\(Sh.clrL s.I L k).dst≠_
   rw [clr_at] at hi |-
   by_cases a:k∈L
   . rw [if_pos a] at hi;cases hi
   . rw [if_neg a] at hi |-
     have q: ¬ (k<256/\Sh.ofP (s.I k) (i:Nat)=true):=fun z=>a ((ml k).2 z)
     unfold Sh.ofP at q
     rw [hi] at q
     constructor
     . intro e;exact q ⟨hk,by rw [e];simp⟩
     . intro e;exact q ⟨hk,by rw [e];simp⟩
def ParR (rk:Nat->Nat) (A:Nat->Option Pr):Prop:= ∀ j P,A j=some P->(j=0/\P.par=0)\/(j≠0/\ ∃ k:Nat,P.par=(k:Int)/\A k≠none/\rk k<rk j)
def SubA (A A':Nat->Option Pr):Prop:= ∀ j R,A' j=some R-> ∃ P,A j=some P/\P.par=R.par
theorem SubA.trans {A B C:Nat->Option Pr} (h:SubA A B) (k:SubA B C):SubA A C:=fun j R e=>by
 obtain ⟨P,p1,p2⟩:=k j R e
 obtain ⟨P',q1,q2⟩:=h j P p1
 exact ⟨P',q1,q2.trans p2⟩
theorem SubA.none {A A':Nat->Option Pr} (h:SubA A A') {j:Nat} (e:A j=none):A' j=none:=by
 cases q:A' j with
 | none => rfl
 | some R => obtain ⟨P, p1, _⟩ := h j R q; rw [e] at p1; cases p1
structure Ended (rk:Nat->Nat) (i:Nat) (s s':Sa):Prop where
 inw:Inw s'
 par:ParR rk s'.A
 tok:TOk s'.A (tkL s'.I 256)
 sub:SubA s.A s'.A
 gone:s'.A i=Option.none
 why: ∀ j P,s.A j=some P->s'.A j=Option.none->j=i\/ ∃ k:Nat,P.par=(k:Int)/\s'.A k=Option.none
theorem Ended.low {rk:Nat->Nat} {c:Nat} {s s':Sa} (h:Ended rk c s s') (hp:ParR rk s.A): ∀ m j,rk j<=m->rk j<rk c->s.A j≠Option.none->s'.A j≠Option.none:=fun m=>by
 induction m with
 | zero =>
  intro j hm hc hj hn
  obtain ⟨P,hP⟩:=Option.ne_none_iff_exists'.1 hj
  rcases h.why j P hP hn with e | ⟨k,k1,k2⟩
  . rw [e] at hc;omega
  . rcases hp j P hP with ⟨z,_⟩ | ⟨_,k',q1,q2,q3⟩
    . rw [z] at hn;exact h.inw.zero hn
    . omega
 | succ m ih =>
  intro j hm hc hj hn
  obtain ⟨P,hP⟩:=Option.ne_none_iff_exists'.1 hj
  rcases h.why j P hP hn with e | ⟨k,k1,k2⟩
  . rw [e] at hc;omega
  . rcases hp j P hP with ⟨z,_⟩ | ⟨_,k',q1,q2,q3⟩
    . rw [z] at hn;exact h.inw.zero hn
    . have e:k=k':=by have:=k1.symm.trans q1;omega
      subst e
      exact ih k (by omega) (by omega) q2 k2
structure Kids (rk:Nat->Nat) (i:Nat) (L:List Nat) (s s':Sa):Prop where
 inw:Inw s'
 par:ParR rk s'.A
 tok:TOk s'.A (tkL s'.I 256)
 sub:SubA s.A s'.A
 here:s'.A i≠Option.none
 gone: ∀ c,c∈L->s'.A c=Option.none
 why: ∀ j P,s.A j=some P->s'.A j=Option.none->j∈L\/ ∃ k:Nat,P.par=(k:Int)/\s'.A k=Option.none
theorem kids_end (rk:Nat->Nat) (f i:Nat) (ok:Nat->Sa->Prop) (T:Nat->Sa->Prop)
 (E: ∀ c s,Inw s->ParR rk s.A->TOk s.A (tkL s.I 256)->T c s->s.A c≠Option.none->ok c s/\Ended rk c s (endS f c s)) (hT: ∀ c s s',SubA s.A s'.A->T c s->T c s') :
 ∀ (L:List Nat) (s:Sa),L.Nodup->Inw s->ParR rk s.A->TOk s.A (tkL s.I 256)->s.A i≠Option.none->(∀ c,c∈L->T c s/\rk i<rk c/\ ∃ P,s.A c=some P/\P.par=(i:Int))->RunOk (endS f) ok L s/\Kids rk i L s (runS (endS f) L s)
 | [], s, _, h, hp, t, hi, _ => ⟨trivial, h, hp, t, fun j R e => ⟨R, e, rfl⟩, hi, fun c hc => absurd hc List.not_mem_nil, fun j P e1 e2 => by rw [show (runS (endS f) [] s).A j = s.A j from rfl, e1] at e2; cases e2⟩
 | c :: r, s, nd, h, hp, t, hi, hc => by
  obtain ⟨tc,rc,P,hP,hpar⟩:=hc c List.mem_cons_self
  obtain ⟨k1,e1⟩:=E c s h hp t tc (by rw [hP];simp)
  have nd':=List.nodup_cons.1 nd
  have i1:(endS f c s).A i≠Option.none:=e1.low hp (rk i) i (Nat.le_refl _) rc hi
  obtain ⟨k2,e2⟩:=kids_end rk f i ok T E hT r (endS f c s) nd'.2 e1.inw e1.par e1.tok i1 (fun c2 h2=>by
   obtain ⟨t2,r2,P2,hP2,hpar2⟩:=hc c2 (List.mem_cons_of_mem _ h2)
   refine ⟨hT c2 s _ e1.sub t2,r2,?_⟩
   cases q:(endS f c s).A c2 with
   | none =>
    exfalso
    rcases e1.why c2 P2 hP2 q with e | ⟨k,a1,a2⟩
    . exact nd'.1 (e ▸ h2)
    . have:k=i:=by have:=a1.symm.trans hpar2;omega
      rw [this] at a2;exact i1 a2
   | some R =>
    obtain ⟨P3,b1,b2⟩:=e1.sub c2 R q
    rw [hP2] at b1;cases b1
    exact ⟨R,rfl,by rw [<- b2];exact hpar2⟩)
  refine ⟨⟨k1,k2⟩,⟨e2.inw,e2.par,e2.tok,e1.sub.trans e2.sub,e2.here,fun x hx=> ?_,fun j Q a1 a2=> ?_⟩⟩
  . rcases List.mem_cons.1 hx with e | e
    . subst e;exact e2.sub.none e1.gone
    . exact e2.gone x e
  . have a2:(runS (endS f) r (endS f c s)).A j=Option.none:=a2
    cases q:(endS f c s).A j with
    | none =>
     rcases e1.why j Q a1 q with e | ⟨k,b1,b2⟩
     . exact Or.inl (e ▸ List.mem_cons_self)
     . exact Or.inr ⟨k,b1,e2.sub.none b2⟩
    | some R =>
     obtain ⟨P3,b1,b2⟩:=e1.sub j R q
     rw [a1] at b1;cases b1
     rcases e2.why j R q a2 with e | ⟨k,c1,c2⟩
     . exact Or.inl (List.mem_cons_of_mem _ e)
     . exact Or.inr ⟨k,b2.trans c1,c2⟩
theorem give_sub (s:Sa) (g:Sh.Gr):SubA s.A (giveS s g).A/\(∀ j,s.A j=Option.none->(giveS s g).A j=Option.none):=by
 have key:SubA s.A (giveS s g).A:=by
  intro j R e
  unfold giveS at e
  split at e
  . split at e
    . exact ⟨R,e,rfl⟩
    . rename_i P hP
      have e:setA s.A g.dst.toNat _ j=some R:=e
      by_cases c:j=g.dst.toNat
      . subst c;rw [setA_same] at e;cases e;exact ⟨P,hP,rfl⟩
      . rw [setA_other _ _ _ _ c] at e;exact ⟨R,e,rfl⟩
  . exact ⟨R,e,rfl⟩
 exact ⟨key,fun j=>key.none⟩
theorem give_subs: ∀ (L:List Sh.Gr) (s:Sa),SubA s.A (giveAll L s).A
 | [], s => fun j R e => ⟨R, e, rfl⟩
 | g :: r, s => (give_sub s g).1.trans (give_subs r (giveS s g))
theorem ParR.of {rk:Nat->Nat} {A A':Nat->Option Pr} (h:ParR rk A) (hs:SubA A A') (hl: ∀ j,A' j≠Option.none↔A j≠Option.none):ParR rk A':=fun j R e=>by
 obtain ⟨P,p1,p2⟩:=hs j R e
 rcases h j P p1 with ⟨a,b⟩ | ⟨a,k,b,c,d⟩
 . exact Or.inl ⟨a,by rw [<- p2];exact b⟩
 . exact Or.inr ⟨a,k,by rw [<- p2];exact b,(hl k).2 c,d⟩
theorem child_nodup (A:Nat->Option Pr) (pd:Int): ∀ m,(childL A pd m).Nodup
 | 0 => List.nodup_nil
 | m + 1 => by
  rw [childL]
  split
  . refine List.nodup_append.2 ⟨child_nodup A pd m,List.nodup_cons.2 ⟨List.not_mem_nil,List.nodup_nil⟩,fun a ha b hb e=> ?_⟩
    have:=((mem_child A pd a m).1 ha).1
    have hb:b=m:=by simpa using hb
    omega
  . rw [List.append_nil];exact child_nodup A pd m
theorem erase_fst (p:Int): ∀ L:List Int,L.eraseIdx (Ca.fstAt L p)=L.erase p
 | [] => rfl
 | x :: r => by
  have ih:=erase_fst p r
  show (x::r).eraseIdx (List.findIdx (fun y=>y==p) (x::r))=_
  rw [List.findIdx_cons]
  by_cases e:x=p
  . subst e;simp
  . have b:(x==p)=false:=by simp [e]
    rw [List.erase_cons_tail (by simp [e]),<- ih]
    simp only [b,cond_false]
    rfl
theorem rem_mem {S:Ca.Qu} (g:Ca.Good S) (p x:Int):x∈(Ca.remS S p).L↔x∈S.L/\x≠p:=by
 unfold Ca.remS
 split
 . show x∈S.L.eraseIdx (Ca.fstAt S.L p)↔_
   have e:S.L.eraseIdx (Ca.fstAt S.L p)=S.L.erase p:=erase_fst p S.L
   rw [e,g.one.mem_erase_iff]
   exact And.comm
 . rename_i c
   exact ⟨fun h=>⟨h,fun e=>c (e ▸ h)⟩,fun h=>h.1⟩
theorem tkL_mem (I:Nat->Sh.Gr) (g:Sh.Gr): ∀ n,g∈tkL I n-> ∃ k,k<n/\g=I k/\g.is=true/\g.tk=true
 | 0, h => absurd h List.not_mem_nil
 | n + 1, h => by
  rw [tkL] at h
  rcases List.mem_append.1 h with q | q
  . obtain ⟨k,a,b⟩:=tkL_mem I g n q;exact ⟨k,by omega,b⟩
  . unfold tkOf at q
    split at q
    . rename_i c
      have e:g=I n:=by simpa using q
      exact ⟨n,by omega,e,by rw [e];exact c⟩
    . cases q
set_option linter.constructorNameAsVariable false in
theorem end_good1 (rk:Nat->Nat) (B f:Nat) (IH: ∀ (i:Nat) (s:Sa),Inw s->ParR rk s.A->TOk s.A (tkL s.I 256)->(∀ j P,s.A j=some P->rk j<B)->i≠0->s.A i≠none->B<=rk i+f->EndOk f i s/\Ended rk i s (endS f i s)): ∀ (i:Nat) (s:Sa),Inw s->ParR rk s.A->TOk s.A (tkL s.I 256)->(∀ j P,s.A j=some P->rk j<B)->i≠0->s.A i≠none->B<=rk i+(f+1)->EndOk (f+1) i s/\Ended rk i s (endS (f+1) i s):=by
 intro i s h hp t hb i0 hi hB
 have L16: ∀ j,s.A j≠none->j<16:=fun j hj=>bca fun c=>hj (h.top j (by omega))
 have kid: ∀ c,c∈childL s.A (i:Nat) 16↔c<16/\ ∃ P,s.A c=some P/\P.par=(i:Int):=fun c=>by
  rw [mem_child]
  unfold isKid
  cases e:s.A c with
  | none => simp
  | some P => simp
 obtain ⟨k1,K⟩:=kids_end rk f i (fun c s=>c<16/\EndOk f c s) (fun c s=>c≠0/\c<16/\B<=rk c+f/\ ∀ j P,s.A j=some P->rk j<B)
  (fun c s h hp t hT hc=>by
   obtain ⟨a,b⟩:=IH c s h hp t hT.2.2.2 hT.1 hc hT.2.2.1
   exact ⟨⟨hT.2.1,a⟩,b⟩)
  (fun c s s' hs hT=>⟨hT.1,hT.2.1,hT.2.2.1,fun j R e=>by obtain ⟨P,p1,_⟩:=hs j R e;exact hT.2.2.2 j P p1⟩)
  (childL s.A (i:Nat) 16) s (child_nodup _ _ _) h hp t hi (fun c hc=>by
   obtain ⟨c16,P,hP,hpar⟩:=(kid c).1 hc
   rcases hp c P hP with ⟨z1,z2⟩ | ⟨c0,k,q1,q2,q3⟩
   . rw [hpar] at z2;omega
   . have e:k=i:=by have:=q1.symm.trans hpar;omega
     subst e
     exact ⟨⟨c0,c16,by omega,hb⟩,q3,P,hP,hpar⟩)
 have eS:endS (f+1) i s=finS (giveI (runS (endS f) (childL s.A (i:Nat) 16) s) i) i:=rfl
 have eO:EndOk (f+1) i s↔RunOk (endS f) (fun c s=>c<16/\EndOk f c s) (childL s.A (i:Nat) 16) s/\GivesOk (goneI (runS (endS f) (childL s.A (i:Nat) 16) s) i) (clrI (runS (endS f) (childL s.A (i:Nat) 16) s) i)/\(∃ P,(giveI (runS (endS f) (childL s.A (i:Nat) 16) s) i).A i=some P)/\Ca.Good (giveI (runS (endS f) (childL s.A (i:Nat) 16) s) i).Q:=Iff.rfl
 rw [eS,eO]
 clear eS eO
 generalize childL s.A (i:Nat) 16=L at kid k1 K |-
 generalize runS (endS f) L s=s1 at K |-
 obtain ⟨c1,c2,c3,c4⟩:=clear_inw K.inw K.tok i
 obtain ⟨g1,g2,g3,g4,g5,g6⟩:=give_all (goneI s1 i) (clrI s1 i) (tkL (clrI s1 i).I 256) c1 c3 c2
 have gi:giveI s1 i=giveAll (goneI s1 i) (clrI s1 i):=by unfold giveI;rfl
 have cA:(clrI s1 i).A=s1.A:=by unfold clrI;rfl
 rw [gi]
 have sb:=give_subs (goneI s1 i) (clrI s1 i)
 clear c1 c2 c3 gi
 generalize goneI s1 i=GL at g1 g2 g3 g4 g5 g6 sb |-
 generalize clrI s1 i=C at g1 g2 g3 g4 g5 g6 sb c4 cA |-
 rw [<- g5] at g3 c4
 generalize giveAll GL C=s2 at g2 g3 g4 g5 g6 sb c4 |-
 simp only [cA] at sb g4
 have hi2:s2.A i≠none:=(g4 i).2 K.here
 obtain ⟨P,hP⟩:=Option.ne_none_iff_exists'.1 hi2
 have p2:ParR rk s2.A:=K.par.of sb g4
 have s02:SubA s.A s2.A:=K.sub.trans sb
 have nk: ∀ j R,s2.A j=some R->R.par≠(i:Int):=fun j R e hr=>by
  obtain ⟨P0,a1,a2⟩:=s02 j R e
  have:=K.gone j ((kid j).2 ⟨L16 j (by rw [a1];simp),P0,a1,a2.trans hr⟩)
  exact (g4 j).1 (by rw [e];simp) this
 refine ⟨⟨k1,g1,⟨P,hP⟩,g2.good⟩,?_⟩
 have eF:finS s2 i=⟨Ca.remS s2.Q (i:Nat),Qo.endT (Qo.creditT s2.T P.k (Qo.getN s2.T P.k).used) P.k,s2.I,setA s2.A i none,s2.B,s2.nx⟩:=by unfold finS;rw [hP]
 rw [eF]
 have pr:ParR rk (setA s2.A i none):=fun j R e=>by
  by_cases c:j=i
  . subst c;rw [setA_same] at e;cases e
  . rw [setA_other _ _ _ _ c] at e
    rcases p2 j R e with q | ⟨a,k,b1,b2,b3⟩
    . exact Or.inl q
    . refine Or.inr ⟨a,k,b1,?_,b3⟩
      have:k≠i:=fun z=>nk j R e (by rw [b1,z])
      rw [setA_other _ _ _ _ this];exact b2
 refine ⟨⟨g2.good.rem _,fun j=> ?_,fun j hj=> ?_,?_,fun j R e=> ?_,fun k hk hs=> ?_,⟨rk,fun j R e j0=> ?_⟩,g2.acc.fin hP _⟩,pr,⟨fun g hg=> ?_,g3.nd,fun j R e=> ?_⟩,fun j R e=> ?_,setA_same _ _ _,fun j Q e1 e2=> ?_⟩
 . rw [rem_mem g2.good]
   by_cases c:j=i
   . subst c;constructor
     . intro q;exact absurd rfl q.2
     . intro q;exact absurd (setA_same _ _ _) q
   . show _↔setA s2.A i none j≠none
     rw [setA_other _ _ _ _ c]
     exact ⟨fun q=>(g2.who j).1 q.1,fun q=>⟨(g2.who j).2 q,by omega⟩⟩
 . by_cases c:j=i
   . rw [c];exact setA_same _ _ _
   . exact (setA_other _ _ _ _ c).trans (g2.top j hj)
 . show setA s2.A i none 0≠none
   rw [setA_other _ _ _ _ (Ne.symm i0)];exact g2.zero
 . have e:setA s2.A i none j=some R:=e
   by_cases c:j=i
   . subst c;rw [setA_same] at e;cases e
   . rw [setA_other _ _ _ _ c] at e;exact g2.pok j R e
 . obtain ⟨a,b,q1,q2,q3,q4,q5,q6,q7,q8⟩:=g2.gok k hk hs
   have z:=c4 k hk hs
   refine ⟨a,b,q1,q2,q3,q4,q5,?_,?_,q8⟩
   . show setA s2.A i none a≠none
     rw [setA_other _ _ _ _ (fun e=>z.1 (by rw [<- e];exact q1))];exact q6
   . show setA s2.A i none b≠none
     rw [setA_other _ _ _ _ (fun e=>z.2 (by rw [<- e];exact q2))];exact q7
 . rcases pr j R e with ⟨a,_⟩ | ⟨_,k,b⟩
   . exact absurd a j0
   . exact ⟨k,b⟩
 . obtain ⟨k,a1,a2,a3,_⟩:=tkL_mem s2.I g 256 hg
   obtain ⟨d,P2,b1,b2,b3,b4⟩:=g3.ok g hg
   have z:=c4 k a1 (by rw [<- a2];exact a3)
   refine ⟨d,P2,b1,b2,?_,b4⟩
   show setA s2.A i none d=some P2
   rw [setA_other _ _ _ _ (fun e=>z.2 (by rw [<- a2,b1,e]))];exact b3
 . have e:setA s2.A i none j=some R:=e
   by_cases c:j=i
   . subst c;rw [setA_same] at e;cases e
   . rw [setA_other _ _ _ _ c] at e;exact g3.len j R e
 . have e:setA s2.A i none j=some R:=e
   by_cases c:j=i
   . subst c;rw [setA_same] at e;cases e
   . rw [setA_other _ _ _ _ c] at e;exact s02 j R e
 . have e2:setA s2.A i none j=none:=e2
   by_cases c:j=i
   . exact Or.inl c
   . rw [setA_other _ _ _ _ c] at e2
     have e3:s1.A j=none:=bca fun q=>(g4 j).2 q e2
     rcases K.why j Q e1 e3 with q | ⟨k,q1,q2⟩
     . obtain ⟨_,P0,a1,a2⟩:=(kid j).1 q
       rw [e1] at a1;cases a1
       exact Or.inr ⟨i,a2,setA_same _ _ _⟩
     . refine Or.inr ⟨k,q1,?_⟩
       show setA s2.A i none k=none
       by_cases d:k=i
       . rw [d];exact setA_same _ _ _
       . rw [setA_other _ _ _ _ d];exact sb.none q2
theorem end_good (rk:Nat->Nat) (B:Nat): ∀ f:Nat,∀ (i:Nat) (s:Sa),Inw s->ParR rk s.A->TOk s.A (tkL s.I 256)->(∀ j P,s.A j=some P->rk j<B)->i≠0->s.A i≠none->B<=rk i+f->EndOk f i s/\Ended rk i s (endS f i s)
 | 0 => fun i s h hp t hb i0 hi hB => by
  obtain ⟨P,hP⟩:=Option.ne_none_iff_exists'.1 hi
  have:=hb i P hP
  omega
 | f + 1 => end_good1 rk B f (end_good rk B f)
structure Inv (rk:Nat->Nat) (s:Sa):Prop where
 inw:Inw s
 par:ParR rk s.A
 tok:TOk s.A (tkL s.I 256)
theorem sub_one {A:Nat->Option Pr} {i:Nat} {P P':Pr} (hP:A i=some P) (hp:P'.par=P.par):SubA A (setA A i (some P')):=fun j R e=>by
 by_cases c:j=i
 . subst c;rw [setA_same] at e;cases e;exact ⟨P,hP,hp.symm⟩
 . rw [setA_other _ _ _ _ c] at e;exact ⟨R,e,rfl⟩
theorem Inv.one {rk:Nat->Nat} {s:Sa} (h:Inv rk s) {i:Nat} {P:Pr} (hP:s.A i=some P) (P':Pr) (hp:P'.par=P.par) (ok:Pok P') (hl:P'.L.length<=P.L.length\/P'.L.length<=64/\(tkL s.I 256).length<=30)
 (hk: ∀ p v,P.F p≠none->Re.atR P.L p=some v->v.2.2.2=1->P'.F p≠none/\ ∃ v':Re.Att,Re.atR P'.L p=some v'/\v'.2.2.2=1) (T':Nat->Qo.Nd) (ac:Acc T' (setA s.A i (some P'))):Inv rk { s with T:=T',A:=setA s.A i (some P') }:=by
 have q:=h.inw.one hP P' hp ok T' ac
 refine ⟨q,h.par.of (sub_one hP hp) (fun j=>setA_ne hP j),fun g hg=> ?_,h.tok.nd,fun j R e=> ?_⟩
 . obtain ⟨d,P2,b1,b2,b3,b4,v,b5,b6⟩:=h.tok.ok g hg
   by_cases c:d=i
   . subst c
     rw [hP] at b3;cases b3
     obtain ⟨a1,v',a2,a3⟩:=hk g.att v b4 b5 b6
     exact ⟨d,P',b1,b2,setA_same _ _ _,a1,v',a2,a3⟩
   . exact ⟨d,P2,b1,b2,(setA_other _ _ _ _ c).trans b3,b4,v,b5,b6⟩
 . have e:setA s.A i (some P') j=some R:=e
   show R.L.length+toJ (tkL s.I 256) j<=94
   by_cases c:j=i
   . subst c
     rw [setA_same] at e;cases e
     have:=h.tok.len j P hP
     have:=toJ_len (tkL s.I 256) j
     omega
   . rw [setA_other _ _ _ _ c] at e;exact h.tok.len j R e
theorem Inv.state {rk:Nat->Nat} {s:Sa} (h:Inv rk s) {i:Nat} {P:Pr} (hP:s.A i=some P) (S:Tr.St) (hS:RegOk S):Inv rk (s.one i { P with st:=S }):=by
 have pk:=h.inw.pok i P hP
 exact h.one hP { P with st:=S } rfl ⟨pk.rl,pk.ways,pk.page,hS⟩ (Or.inl (Nat.le_refl _)) (fun p v a b c=>⟨a,v,b,c⟩) s.T (h.inw.acc.list hP _ rfl rfl rfl (fun _ _=>rfl) (h.inw.acc.pa i P hP).bor)
theorem reg_set {s:Tr.St} (h:RegOk s) {k x:Int} (hk:inR k) (hx:u64B x):RegOk (setR s k x):=by
 obtain ⟨r0,r1,r2,r3,t,en,inn,a,c,s0,s1,s2,s3⟩:=s
 have b: ∀ j,inR j->u64B (regOf ⟨r0,r1,r2,r3,t,en,inn,a,c,s0,s1,s2,s3⟩ j):=h.r
 rcases (by omega:k=0\/k=1\/k=2\/k=3) with e | e | e | e
 all_goals
  subst e
  refine ⟨fun j hj=> ?_,h.s0,h.s1,h.s2,h.s3,h.en⟩
  have bj:=b j hj
  rcases (by omega:j=0\/j=1\/j=2\/j=3) with e | e | e | e
  all_goals
   subst e
   first
    | exact hx
    | exact bj
theorem reg_han {s:Tr.St} (h:RegOk s) {x:Int} (hx:u64B x):RegOk (hanS s x):=by
 unfold hanS
 split
 . exact h
 . exact ⟨h.r,h.s0,h.s1,h.s2,h.s3,hx⟩
theorem reg_ret {s:Tr.St} (h:RegOk s):RegOk (retS s):=by
 unfold retS
 have z:u64B 0:=⟨by omega,by omega⟩
 split
 . refine ⟨fun j hj=> ?_,z,z,z,z,h.en⟩
   rcases (by omega:j=0\/j=1\/j=2\/j=3) with e | e | e | e
   . subst e;exact h.s0
   . subst e;exact h.s1
   . subst e;exact h.s2
   . subst e;exact h.s3
 . exact h
theorem reg_mov {s:Tr.St} (h:RegOk s) {k x:Int} (hx:u64B x):RegOk (movS s k x):=by
 unfold movS
 split
 . rename_i c;exact reg_set h c hx
 . exact h
theorem reg_rec {s:Tr.St} (h:RegOk s) (op x y z:Int):RegOk (recS s op x y z):=by
 unfold recS
 split
 . rename_i c
   unfold recE at c
   split at c
   . rename_i q
     obtain ⟨hx,hy,hz⟩:=q
     have a:=h.r x hx
     have b:=h.r y hy
     have l:=FltM.doR_lt op (a:=(regOf s x).toNat) (b:=(regOf s y).toNat) (by omega) (by omega)
     have w:u64B ((FltM.doR op (regOf s x).toNat (regOf s y).toNat:Nat):Int):=⟨by omega,by omega⟩
     exact reg_set (s:={ s with told:=bits .or .i64 s.told (FltM.doT op (regOf s x).toNat (regOf s y).toNat) }) ⟨h.r,h.s0,h.s1,h.s2,h.s3,h.en⟩ hz w
   . omega
 . exact h
theorem reg_raise {s:Tr.St} (h:RegOk s) {fa fc:Int} (ha:u64B fa) (hc:u64B fc):RegOk (raiseS s fa fc):=by
 unfold raiseS
 have z:u64B 0:=⟨by omega,by omega⟩
 split
 . refine ⟨fun j hj=> ?_,h.r 0 ⟨by omega,by omega⟩,h.r 1 ⟨by omega,by omega⟩,h.r 2 ⟨by omega,by omega⟩,h.r 3 ⟨by omega,by omega⟩,h.en⟩
   rcases (by omega:j=0\/j=1\/j=2\/j=3) with e | e | e | e
   . subst e;exact ha
   . subst e;exact hc
   . subst e;exact z
   . subst e;exact z
 . exact h
theorem Inv.queue {rk:Nat->Nat} {s:Sa} (h:Inv rk s) (Q':Ca.Qu) (g:Ca.Good Q') (hm: ∀ x,x∈Q'.L↔x∈s.Q.L):Inv rk { s with Q:=Q' } :=
 ⟨⟨g,fun j=>(hm _).trans (h.inw.who j),h.inw.top,h.inw.zero,h.inw.pok,h.inw.gok,h.inw.par,h.inw.acc⟩,h.par,h.tok⟩
theorem yld_mem (S:Ca.Qu) (x:Int):x∈(Ca.yldS S).L↔x∈S.L:=by
 obtain ⟨q,t,L⟩:=S
 cases L with
 | nil => exact Iff.rfl
 | cons a r =>
  show x∈r++[a]↔x∈a::r
  rw [List.mem_append,List.mem_singleton,List.mem_cons]
  exact Or.comm
theorem Inv.yield {rk:Nat->Nat} {s:Sa} (h:Inv rk s):Inv rk { s with Q:=Ca.yldS s.Q }:=h.queue _ h.inw.good.yld (yld_mem s.Q)
theorem tck_mem (S:Ca.Qu) (x:Int):x∈(Ca.tckS S).L↔x∈S.L:=by
 have y:=yld_mem S x
 unfold Ca.tckS
 split
 . exact Iff.rfl
 . split
   . exact Iff.rfl
   . exact y
theorem Inv.tick {rk:Nat->Nat} {s:Sa} (h:Inv rk s):Inv rk { s with Q:=Ca.tckS s.Q }:=h.queue _ h.inw.good.tck (tck_mem s.Q)
end
end Go.Proofs.YtokpmclmdobgeaaGreat.Fl
