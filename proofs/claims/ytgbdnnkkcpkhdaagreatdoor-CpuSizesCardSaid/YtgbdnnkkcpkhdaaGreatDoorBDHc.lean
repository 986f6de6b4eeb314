import Derived.Test.YtgbdnnkkcpkhdaaGreatDoorBDdc
set_option linter.unusedSimpArgs false
set_option linter.unusedVariables false
set_option maxRecDepth 8000
set_option maxHeartbeats 4000000
open Go.ChangeShapes Go.WideShapes Go.ChangeAt Go.RowKit Go.Maps
namespace Go.Proofs.YtgbdnnkkcpkhdaaGreatDoor.Bd
theorem Bt.over {w W:World} {base b gb N:Nat} {mbs:Nat->Nat} {svs:Nat->Value} {A:Nat->Int->Prop} {G:Int->Option Int} (H:Bt w W base b gb mbs svs N A G) (o:Obj): ∃ s,Bt (W.alloc o) (W.alloc o) base b gb mbs s N A G/\ ¬ Ob b gb mbs s W.heap.size/\(∀ j,j<w.heap.size-> ¬ Ob b gb mbs svs j-> ¬ Ob b gb mbs s j)/\ ∀ w' N' A' G',Bt (W.alloc o) w' base b gb mbs s N' A' G'->Bt w w' base b gb mbs svs N' A' G':=by
 obtain ⟨C,s,h1,h2,h3⟩:=H
 have hb:bc W (W.alloc o):=baa
 have h1':=h1.below hb
 have bb:=h1.bb
 refine ⟨s,Bt.refl h1',?_,fun j hj nO e=> ?_,fun w' N' A' G' ⟨C',s',g1,g2,g3⟩=>⟨C',s',g1,(h2.trans (Kf.below hb)).next g2 (fun j hj e=> ?_),fun o ho=> ?_⟩⟩
 . rintro (e | e | ⟨o,ho,e | e⟩)
   . have:=h1.blk.2;omega
   . have:=h1.gb.2;omega
   . obtain ⟨_,_,_,bl,_⟩:=h1.bs o ho
     have:=bl.lb.2;omega
   . obtain ⟨_,_,_,bl,_⟩:=h1.bs o ho
     have:=(row_lt bl.own _ e).2;omega
 . apply nO
   rcases e with e | e | ⟨o,ho,e | e⟩
   . exact Or.inl e
   . exact Or.inr (Or.inl e)
   . exact Or.inr (Or.inr ⟨o,ho,Or.inl e⟩)
   . rcases h3 o ho with q | ⟨g,q,lg⟩
     . exact Or.inr (Or.inr ⟨o,ho,Or.inr (q.symm.trans e)⟩)
     . rw [q] at e;have:=sia e;omega
 . rcases e with e | e | ⟨o,ho,e | e⟩
   . exact Or.inl e
   . exact Or.inr (Or.inl e)
   . exact Or.inr (Or.inr ⟨o,ho,Or.inl e⟩)
   . rcases h3 o ho with q | ⟨g,q,lg⟩
     . exact Or.inr (Or.inr ⟨o,ho,Or.inr (q.symm.trans e)⟩)
     . rw [q] at e;have:=sia e;omega
 . rcases g3 o ho with q | ⟨g,q,lg⟩
   . rw [q];exact h3 o ho
   . exact Or.inr ⟨g,q,Nat.le_trans (Nat.le_trans h2.size hb.size) lg⟩
theorem Bt.keep {w W:World} {base b gb N:Nat} {mbs:Nat->Nat} {svs:Nat->Value} {A:Nat->Int->Prop} {G:Int->Option Int} (H:Bt w W base b gb mbs svs N A G) {j:Nat} (hj:j<w.heap.size) (nO: ¬ Ob b gb mbs svs j):W.heap[j]? =w.heap[j]? :=by
 obtain ⟨C,s,h1,h2,h3⟩:=H
 exact h2.block j hj nO
def seg (F:Nat->Prop) (f t:Nat):Nat->Prop:=fun i=>F i\/(f<=i/\i<t)
theorem seg_none (F:Nat->Prop) (f:Nat):seg F f f=F:=by
 funext i;apply propext;unfold seg
 exact ⟨fun h=>h.elim id (fun h=>absurd (Nat.lt_of_le_of_lt h.1 h.2) (Nat.lt_irrefl _)),Or.inl⟩
theorem seg_more (F:Nat->Prop) {f a k q:Nat} (fa:f<=a) (e:a=q*2 ^ k):(fun i=>seg F f a i\/i / 2 ^ k=q)=seg F f (a+2 ^ k):=by
 funext i
 apply propext
 rw [in_blk,<- e]
 unfold seg
 clear e
 generalize 2 ^ k=Q
 constructor
 . rintro ((h | h) | h)
   . exact Or.inl h
   . exact Or.inr ⟨h.1,by omega⟩
   . exact Or.inr ⟨by omega,h.2⟩
 . rintro (h | h)
   . exact Or.inl (Or.inl h)
   . by_cases c:i<a
     . exact Or.inl (Or.inr ⟨h.1,c⟩)
     . exact Or.inr ⟨by omega,h.2⟩
theorem seg_bnd {F:Nat->Prop} (h:Bnd F) (f:Nat) {t:Nat} (ht:t<=1048576):Bnd (seg F f t):=fun i hi=>by
 rcases hi with q | q
 . exact h i q
 . omega
theorem pow_facts {k:Nat} (hk:k<=10): ∃ P:Int,IntKind.i64.wrap (2 ^ k)=P/\P=((2 ^ k:Nat):Int)/\1<=P/\P<=1024:=by
 have l:=pow_small hk
 have p:=p2pos k
 have h3:=wrap_pow hk
 generalize hQ:(2 ^ k:Nat)=Q at *
 refine ⟨(Q:Int),?_,rfl,by omega,by omega⟩
 rw [Go.IntWalk.i64_left];exact h3
theorem lay_k1 {a k:Nat} (h: ¬ a % 2 ^ k=0):0<k:=by
 cases k with
 | zero => exfalso; apply h; rw [Nat.pow_zero, Nat.mod_one]
 | succ k => omega
theorem lay_k2 {a k t:Nat} (h:a<t) (h2: ¬ a+2 ^ k<=t):0<k:=by
 cases k with
 | zero => exfalso; apply h2; rw [Nat.pow_zero]; omega
 | succ k => omega
theorem lay_mod {a k:Nat} {P:Int} (hP:P=((2 ^ k:Nat):Int)):(a:Int).tmod P=((a % 2 ^ k:Nat):Int):=by
 rw [hP];exact (Int.ofNat_tmod a (2 ^ k)).symm
theorem lay_sum {N f a k t:Nat} (fa:f<=a) (h:a+2 ^ k<=t):N+(a-f)+1<=N+(a+2 ^ k-f)/\N+(a-f)+1<=N+(t-f):=by
 have p:=p2pos k
 generalize 2 ^ k=Q at *
 omega
theorem lay_blk {a k q:Nat} {F:Nat->Prop} {f t:Nat} (e:a=q*2 ^ k) (h:a+2 ^ k<=t) (fa:f<=a) (hd: ∀ i,f<=i->i<t-> ¬ F i): ∀ i,i / 2 ^ k=q-> ¬ seg F f a i:=by
 intro i hi
 rw [in_blk,<- e] at hi
 clear e
 generalize 2 ^ k=Q at *
 rintro (c | c)
 . exact hd i (by omega) (by omega) c
 . omega
theorem lay_top {a k q t:Nat} (e:a=q*2 ^ k) (h:a+2 ^ k<=t) (t9:t<=1048576):q*2 ^ k+2 ^ k<=1048576:=by
 rw [<- e]
 exact Nat.le_trans h t9
theorem lay_meas {a k t:Nat} (h:a+2 ^ k<=t):t-(a+2 ^ k)<t-a:=by
 have p:=p2pos k
 generalize 2 ^ k=Q at *
 omega
theorem lay_any (base b gb N:Nat) (mbs:Nat->Nat) (svs:Nat->Value) (F:Nat->Prop) (G:Int->Option Int) (f t:Nat) (ft:f<=t) (t9:t<=1048576) (hd: ∀ i,f<=i->i<t-> ¬ F i) (hF:Bnd F) (hn:N+(t-f)<=1048576) (w:World) (H:Bt w w base b gb mbs svs N (can F) G) :
 Calls Tryz.prog 83 #[.pointer (some ⟨b,0,none⟩),.agg #[.int .i64 f,.int .i64 t]] w fun e w'=>e=.returned (.tuple #[])/\Bt w w' base b gb mbs svs (N+(t-f)) (can (seg F f t)) G:=by
 obtain ⟨s,B1,nO,_,back⟩:=H.over (.cells #[.int .i64 f,.int .i64 t] 43)
 have BB:Hid (∀ w' N' A' G',Bt (w.alloc (.cells #[.int .i64 f,.int .i64 t] 43)) w' base b gb mbs s N' A' G'->Bt w w' base b gb mbs svs N' A' G'):=back
 have ow:=own1 w (.cells #[.int .i64 f,.int .i64 t] 43)
 have lw:w.heap.size<(w.alloc (.cells #[.int .i64 f,.int .i64 t] 43)).heap.size:=ke
 have HD:Hid (∀ i,f<=i->i<t-> ¬ F i):=hd
 have HF:Hid (Bnd F):=hF
 clear H back hd hF
 go_enter Tryz.func83,Tryz.ntmps83
 go_upto_region 1 with fail
 generalize w.alloc (.cells #[.int .i64 f,.int .i64 t] 43)=w1 at *
 generalize w.heap.size=r at *
 have CC:Hid (∀ W N' A' G',Bt w1 W base b gb mbs s N' A' G'->W.cell? ⟨r,0,none⟩=some (.int .i64 f)/\W.cell? ⟨r,1,none⟩=some (.int .i64 t)/\r<W.heap.size):=fun W N' A' G' h=>by
  have e:=(h.keep lw nO).trans ow
  exact ⟨by rw [Go.Joins.cell_of_block e];rfl,by rw [Go.Joins.cell_of_block e];rfl,blk_lt e⟩
 have HB:Hid (Bt w1 w1 base b gb mbs s N (can F) G):=B1
 obtain ⟨c0,c1,lr⟩:=CC.out _ _ _ _ B1
 clear B1 ow nO lw
 go_wp2_with fail
 clear c0 c1 lr
 go_loopw [4,5] (fun v u W=> ∃ a:Nat,f<=a/\a<=t/\v=.int .i64 a/\Hid (Bt w1 W base b gb mbs s (N+(a-f)) (can (seg F f a)) G)) (fun v _ _=>t-(intOf v).toNat)
 case atStart=>exact ⟨f,Nat.le_refl _,ft,rfl,by show Bt w1 w1 base b gb mbs s (N+(f-f)) (can (seg F f f)) G;rw [Nat.sub_self,seg_none];exact HB.out⟩
 case round =>
  clear HB
  obtain ⟨a,fa,ta,rfl,hB⟩:=hrel
  obtain ⟨c0,c1,lr⟩:=CC.out _ _ _ _ hB.out
  by_cases at_:a<t
  rotate_left
  . have e:a=t:=by omega
    subst e
    have d1:decide ((a:Int)<(a:Int))=false:=by simp
    clear at_
    go_wp2_with fail
    go_end0
    exact ⟨rfl,BB.out _ _ _ _ hB.out⟩
  have d1:decide ((a:Int)<(t:Int))=true:=kh
  go_wp2_with fail
  clear d1
  go_loopw [5] (fun v W=> ∃ k:Nat,k<=10/\v=.int .i64 k/\Hid (Bt w1 W base b gb mbs s (N+(a-f)) (can (seg F f a)) G)) (fun v _=>(intOf v).toNat)
  case atStart=>exact ⟨10,by omega,rfl,hB⟩
  case round =>
   clear hB c0 c1 lr
   obtain ⟨k,hk,rfl,hB⟩:=hrel
   obtain ⟨c0,c1,lr⟩:=CC.out _ _ _ _ hB.out
   obtain ⟨P,wP,kP,P1,P2⟩:=pow_facts hk
   have HPk:Hid (P=((2 ^ k:Nat):Int)):=kP
   have z1:(P==0)=false:=kh
   have w2:IntKind.i64.wrap ((a:Int)+P)=(a:Int)+P:=by clear wP kP;rw [IntKind.wrap_i64];omega
   have md:=lay_mod (a:=a) kP
   have z2: ¬ P=0:=by clear wP kP md;omega
   have w3:IntKind.i64.wrap ((a:Int).tmod P)=(a:Int).tmod P:=by
    have l:=Nat.mod_le a (2 ^ k)
    rw [md];clear wP kP md;generalize a % 2 ^ k=z at *;rw [IntKind.wrap_i64];omega
   by_cases m0:a % 2 ^ k=0
   rotate_left
   . have k0:=lay_k1 m0
     have m1:((a:Int).tmod P != 0)=true:=by rw [md];simp;exact_mod_cast m0
     clear md kP m0 HPk
     go_wp2_with fail
     go_quiet (fail)
     go_wp2_with fail
     go_roundw
     case rel=>clear wP;exact ⟨k-1,by omega,by congr 1;omega,hB.out.below (below_drewN (Below.refl _ _) _)⟩
     case measure=>clear wP;simp [intOf];omega
   have m1:((a:Int).tmod P != 0)=false:=by rw [md,m0];simp
   by_cases g0:a+2 ^ k<=t
   rotate_left
   . have k0:=lay_k2 at_ g0
     have m2:decide ((t:Int)<(a:Int)+P)=true:=by rw [kP];simp only [decide_eq_true_eq];exact_mod_cast Nat.lt_of_not_le g0
     clear md kP m0 HPk g0
     go_wp2_with fail
     go_quiet (fail)
     go_wp2_with fail
     go_roundw
     case rel=>clear wP;exact ⟨k-1,by omega,by congr 1;omega,hB.out.below (below_drewN (Below.refl _ _) _)⟩
     case measure=>clear wP;simp [intOf];omega
   have m2:decide ((t:Int)<(a:Int)+P)=false:=by rw [kP];simp only [decide_eq_false_iff_not];exact_mod_cast Nat.not_lt_of_le g0
   obtain ⟨q,hq⟩: ∃ q,a=q*2 ^ k:=⟨a / 2 ^ k,by have:=Nat.div_add_mod a (2 ^ k);rw [m0,Nat.add_zero,Nat.mul_comm] at this;exact this.symm⟩
   have LS:=lay_sum (N:=N) fa g0
   have RC:Hid (∀ W',bc wr W'->Calls Tryz.prog 104 (sf (.pointer (some ⟨b,0,none⟩)) a k) W' fun e w'=>e=.returned (.tuple #[])/\Bt w1 w' base b gb mbs s (N+(a+2 ^ k-f)) (can (seg F f (a+2 ^ k))) G):=fun W' hb=>by
    obtain ⟨s2,B2,bk⟩:=(hB.out.below hb).then
    have r:=rel_any base b gb (N+(a-f)) mbs s2 (seg F f a) G k q hk (lay_top hq g0 t9) (lay_blk hq g0 fa HD.out) (seg_bnd HF.out f (by omega)) (nla (Nat.lt_of_succ_le LS.2) hn) W' B2
    rw [<- hq] at r
    refine r.mono ?_
    rintro e w' ⟨he,h⟩
    rw [seg_more F fa hq] at h
    exact ⟨he,(bk _ _ _ _ h).mono LS.1⟩
   have G0:Hid (a+2 ^ k<=t):=g0
   clear md kP m0 hq LS g0 hB
   go_wp2_with fail
   go_quiet (fail)
   go_wp2_with fail
   refine Calls.mono (RC.out _ (below_drewN (Below.refl _ _) _)) ?_
   rintro e u ⟨rfl,hB2⟩
   have HB2:Hid (Bt w1 u base b gb mbs s (N+(a+2 ^ k-f)) (can (seg F f (a+2 ^ k))) G):=hB2
   clear hB2 RC
   go_wp2_with fail
   go_roundw
   case rel=>exact ⟨a+2 ^ k,Nat.le_trans fa (Nat.le_add_right _ _),G0.out,by rw [HPk.out,Int.natCast_add],HB2⟩
   case measure =>
    have e:(a:Int)+P=((a+2 ^ k:Nat):Int):=by rw [HPk.out,Int.natCast_add]
    rw [e]
    exact lay_meas G0.out
end Go.Proofs.YtgbdnnkkcpkhdaaGreatDoor.Bd
