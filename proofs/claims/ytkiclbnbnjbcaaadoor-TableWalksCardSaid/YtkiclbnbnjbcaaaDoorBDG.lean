import Derived.Test.YtkiclbnbnjbcaaaDoorBDX
import Derived.Laws.ShiftsVar
import Derived.BigQuiet
namespace Go.Proofs.YtkiclbnbnjbcaaaDoor.Bd
open Go.ChangeShapes Go.WideShapes Go.ChangeAt Go.RowKit Go.Maps
set_option linter.unusedSimpArgs false
set_option linter.unusedVariables false
set_option maxRecDepth 8000
theorem Bt.then {w W:World} {base b gb N:Nat} {mbs:Nat->Nat} {svs:Nat->Value} {A:Nat->Int->Prop} {G:Int->Option Int} (H:Bt w W base b gb mbs svs N A G) :
 ∃ s,Bt W W base b gb mbs s N A G/\ ∀ w' N' A' G',Bt W w' base b gb mbs s N' A' G'->Bt w w' base b gb mbs svs N' A' G':=by
 obtain ⟨C,s,h1,h2,h3⟩:=H
 refine ⟨s,Bt.refl h1,fun w' N' A' G' ⟨C',s',g1,g2,g3⟩=>⟨C',s',g1,h2.next g2 (fun j hj e=> ?_),fun o ho=> ?_⟩⟩
 . rcases e with e | e | ⟨o,ho,e | e⟩
   . exact Or.inl e
   . exact Or.inr (Or.inl e)
   . exact Or.inr (Or.inr ⟨o,ho,Or.inl e⟩)
   . rcases h3 o ho with q | ⟨g,q,lg⟩
     . exact Or.inr (Or.inr ⟨o,ho,Or.inr (q.symm.trans e)⟩)
     . rw [q] at e;have:=Option.some.inj e;omega
 . rcases g3 o ho with q | ⟨g,q,lg⟩
   . rw [q];exact h3 o ho
   . exact Or.inr ⟨g,q,Nat.le_trans h2.size lg⟩
structure Up (F:Nat->Prop) (o q k:Nat) (x:Int) (F':Nat->Prop) (p:Nat):Prop where
 at_:x=((p*2 ^ k:Nat):Int)
 dj: ∀ i,i / 2 ^ k=p-> ¬ F' i
 all:(fun i=>F' i\/i / 2 ^ k=p)=(fun i=>F i\/i / 2 ^ o=q)
theorem Up.top {F F':Nat->Prop} {o q k p:Nat} {x:Int} (U:Up F o q k x F' p) (hB:Bnd F) (hq:q*2 ^ o+2 ^ o<=1048576):p*2 ^ k+2 ^ k<=1048576:=by
 have pk:=p2pos k
 have m:(p*2 ^ k+(2 ^ k-1)) / 2 ^ k=p:=(in_blk k p _).2 ⟨by omega,by omega⟩
 have e:=congrFun U.all (p*2 ^ k+(2 ^ k-1))
 have r:F (p*2 ^ k+(2 ^ k-1))\/(p*2 ^ k+(2 ^ k-1)) / 2 ^ o=q:=by
  have:(F' (p*2 ^ k+(2 ^ k-1))\/(p*2 ^ k+(2 ^ k-1)) / 2 ^ k=p):=Or.inr m
  exact e.mp this
 rcases r with r | r
 . have:=hB _ r;omega
 . have:=((in_blk o q _).1 r).2;omega
theorem Up.bnd {F F':Nat->Prop} {o q k p:Nat} {x:Int} (U:Up F o q k x F' p) (hB:Bnd F) (hq:q*2 ^ o+2 ^ o<=1048576):Bnd F':=fun i hi=>by
 rcases (congrFun U.all i).mp (Or.inl hi) with r | r
 . exact hB _ r
 . have:=((in_blk o q _).1 r).2;omega
theorem Up.next {F F':Nat->Prop} {o q k p:Nat} {x:Int} (U:Up F o q k x F' p) (h:cnN F' k (bud p)):Up F o q (k+1) ((p / 2*2 ^ (k+1):Nat):Int) (fun i=>F' i/\ ¬ i / 2 ^ k=bud p) (p / 2):=by
 have hp: ∀ i,i / 2 ^ (k+1)=p / 2↔i / 2 ^ k=p\/i / 2 ^ k=bud p:=fun i=>by
  rw [half_blk];unfold bud;split <;> omega
 refine ⟨rfl,fun i hi=> ?_,?_⟩
 . rcases (hp i).1 hi with r | r
   . exact fun f=>U.dj i r f.1
   . exact fun f=>f.2 r
 . rw [<- U.all]
   funext i
   apply propext
   rw [hp i]
   constructor
   . rintro (r | r | r)
     . exact Or.inl r.1
     . exact Or.inr r
     . exact Or.inl (h.1 i r)
   . rintro (r | r)
     . by_cases c:i / 2 ^ k=bud p
       . exact Or.inr (Or.inr c)
       . exact Or.inl ⟨r,c⟩
     . exact Or.inr (Or.inl r)
theorem bud_lt {p k:Nat} (h:p*2 ^ k+2 ^ k<=1048576) (hk:k<10):bud p*2 ^ k+2 ^ k<=1048576:=by
 obtain ⟨d,hd⟩: ∃ d,1048576=d*2 ^ (k+1):=⟨2 ^ (19-k),by rw [<- Nat.pow_add,show 19-k+(k+1)=20 by omega]⟩
 have e:2 ^ (k+1)=2*2 ^ k:=by rw [Nat.pow_succ,Nat.mul_comm]
 have h1:(p+1)*2 ^ k<=(2*d)*2 ^ k:=by
  rw [Nat.add_mul,Nat.one_mul,Nat.mul_comm 2 d,Nat.mul_assoc,<- e,<- hd];exact h
 have h2:p+1<=2*d:=Nat.le_of_mul_le_mul_right h1 (p2pos k)
 have h3:bud p+1<=2*d:=by unfold bud;split <;> omega
 have h4:=Nat.mul_le_mul_right (2 ^ k) h3
 rw [Nat.add_mul,Nat.one_mul,Nat.mul_comm 2 d,Nat.mul_assoc,<- e,<- hd] at h4
 exact h4
theorem pow_int (k:Nat):((2:Int) ^ k)=((2 ^ k:Nat):Int):=by simp
theorem pow_small {k:Nat} (hk:k<=10):2 ^ k<=1024:=by
 have:2 ^ k<=2 ^ 10:=Nat.pow_le_pow_right (by omega) hk
 omega
theorem wrap_pow {k:Nat} (hk:k<=10):wrap64 (2 ^ k)=((2 ^ k:Nat):Int):=by
 have:=pow_small hk
 rw [pow_int];unfold wrap64;generalize 2 ^ k=P at *;omega
theorem xor_at {p k:Nat} (hk:k<=10) (h:p*2 ^ k+2 ^ k<=1048576):bits .xor .i64 ((p*2 ^ k:Nat):Int) (wrap64 (2 ^ k))=((bud p*2 ^ k:Nat):Int):=by
 have l:=pow_small hk
 rw [wrap_pow hk,i64_xor_nat _ _ (Nat.lt_of_le_of_lt (Nat.le_trans (Nat.le_add_right _ _) h) (by decide)) (Nat.lt_of_le_of_lt l (by decide)),xor_blk]
theorem not_at {p k:Nat} (hk:k<=10) (h:p*2 ^ k+2 ^ k<=1048576):bits .andNot .i64 ((p*2 ^ k:Nat):Int) (wrap64 (2 ^ k))=((p / 2*2 ^ (k+1):Nat):Int):=by
 have l:=pow_small hk
 rw [wrap_pow hk,i64_not_nat _ _ (Nat.lt_of_le_of_lt (Nat.le_trans (Nat.le_add_right _ _) h) (by decide)) (Nat.lt_of_le_of_lt l (by decide)),not_blk _ _ hk (Nat.lt_of_le_of_lt (Nat.le_trans (Nat.le_add_right _ _) h) (by decide))]
set_option maxHeartbeats 2000000 in
theorem rel_any (base b gb N:Nat) (mbs:Nat->Nat) (svs:Nat->Value) (F:Nat->Prop) (G:Int->Option Int) (o q:Nat) (ho:o<=10) (hq:q*2 ^ o+2 ^ o<=1048576) (hd: ∀ i,i / 2 ^ o=q-> ¬ F i) (hF:Bnd F) (hn:N<1048576) (w:World) (H:Bt w w base b gb mbs svs N (can F) G) :
 Calls Tryd.prog 78 #[.pointer (some ⟨b,0,none⟩),.int .i64 ((q*2 ^ o:Nat):Int),.int .i64 o] w fun e w'=>e=.returned (.tuple #[])/\Bt w w' base b gb mbs svs (N+1) (can (fun i=>F i\/i / 2 ^ o=q)) G:=by
 have HH:Hid (Bt w w base b gb mbs svs N (can F) G):=H
 have HF:Hid (Bnd F):=hF
 have HQ:Hid (q*2 ^ o+2 ^ o<=1048576):=hq
 obtain ⟨x,hx⟩: ∃ x:Int,x=((q*2 ^ o:Nat):Int):=⟨_,rfl⟩
 rw [<- hx]
 have HU:Hid (Up F o q o x F q):=⟨hx,hd,rfl⟩
 clear H hF hq hd hx
 go_enter Tryd.func78,Tryd.ntmps78
 go_wp2_with fail
 go_loopw [1,2] (fun v u W=> ∃ (k:Nat) (y:Int),o<=k/\k<=10/\v=.int .i64 y/\u=.int .i64 k/\Hid (∃ F' p,Up F o q k y F' p/\Bt w W base b gb mbs svs N (can F') G)) (fun _ u _=>10-(intOf u).toNat)
 case atStart=>exact ⟨o,x,Nat.le_refl _,ho,rfl,rfl,⟨F,q,HU.out,HH.out⟩⟩
 case round =>
  clear HU HH
  obtain ⟨k,y,hk1,hk2,rfl,rfl,hU⟩:=hrel
  obtain ⟨F',p,U,B⟩:=hU.out
  have tp:=U.top HF.out HQ.out
  have bn:=U.bnd HF.out HQ.out
  clear hU
  have d0:decide ((k:Int)<0)=false:=by simp
  have d1:decide ((k:Int)<11)=true:=by simp;omega
  have fin:(k=10\/ ¬ cnN F' k (bud p))->Hid (∀ W',Below wr.heap.size wr W'->Calls Tryd.prog 90 #[.pointer (some ⟨b,k*2,none⟩),.int .i64 y] W' fun e w'=>e=.returned (.tuple #[])/\Bt w w' base b gb mbs svs (N+1) (can (fun i=>F i\/i / 2 ^ o=q)) G):=fun hc W' hb=>by
   have r:=(B.below hb).add k (by omega) y (by rw [U.at_];have:=p2pos k;omega) hn (fun c=>by
    rw [U.at_] at c
    have:=((can_iff hk2).1 c).1 _ (blk_ne k p)
    exact U.dj _ (blk_ne k p) this)
   rw [U.at_,can_add hk2 U.dj hc,U.all,<- U.at_] at r
   exact r
  by_cases k10:k=10
  . subst k10
    have FN:=fin (Or.inl rfl)
    clear fin U B tp bn
    go_wp2_with fail
    go_quiet (fail)
    go_wp2_with fail
    refine Calls.mono (FN.out _ (below_drewN (Below.refl _ _) _)) ?_
    rintro e u ⟨rfl,hB⟩
    go_wp2_with fail
    go_returns
    exact ⟨rfl,hB⟩
  have k9:k<10:=by omega
  have c1:decide ((k:Int)<10)=true:=by simp;omega
  have tb:=bud_lt tp k9
  have X1:bits .xor .i64 y (wrap64 (2 ^ k))=((bud p*2 ^ k:Nat):Int):=by rw [U.at_];exact xor_at hk2 tp
  have HC:Hid (∀ W',Below wr.heap.size wr W'->Calls Tryd.prog 88 #[.pointer (some ⟨b,k*2,none⟩),.int .i64 (bits .xor .i64 y (wrap64 (2 ^ k)))] W' fun e w'=>e=.returned (.bool (@decide (cnN F' k (bud p)) (Classical.propDecidable _)))/\w'=W'):=fun W' hb=>by
   have r:=(B.below hb).has k (by omega) ((bud p*2 ^ k:Nat):Int) ⟨by omega,by have:=p2pos k;omega⟩
   rw [<- X1] at r
   have e:(@decide (can F' k (bits .xor .i64 y (wrap64 (2 ^ k)))) (Classical.propDecidable _))=(@decide (cnN F' k (bud p)) (Classical.propDecidable _)):=by
    rw [X1,propext (@can_iff F' k (bud p) hk2)]
   rw [e] at r
   exact r
  by_cases hb:cnN F' k (bud p)
  . have HC':Hid (∀ W',Below wr.heap.size wr W'->Calls Tryd.prog 88 #[.pointer (some ⟨b,k*2,none⟩),.int .i64 (bits .xor .i64 y (wrap64 (2 ^ k)))] W' fun e w'=>e=.returned (.bool true)/\w'=W'):=fun W' h=>by
     have r:=HC.out W' h
     simp only [hb,decide_true] at r
     exact r
    have DC:Hid (∀ W',Below wr.heap.size wr W'->Calls Tryd.prog 89 #[.pointer (some ⟨b,k*2,none⟩),.int .i64 (bits .xor .i64 y (wrap64 (2 ^ k)))] W' fun e w'=>e=.returned (.tuple #[])/\Bt w w' base b gb mbs svs N (can (fun i=>F' i/\ ¬ i / 2 ^ k=bud p)) G):=fun W' h=>by
     have r:=(B.below h).drop k (by omega) ((bud p*2 ^ k:Nat):Int) (by omega) ((can_iff hk2).2 hb)
     rw [can_rem hk2 hb,<- X1] at r
     exact r
    have U2:Hid (Up F o q (k+1) ((p / 2*2 ^ (k+1):Nat):Int) (fun i=>F' i/\ ¬ i / 2 ^ k=bud p) (p / 2)):=U.next hb
    have X2:Hid (bits .andNot .i64 y (wrap64 (2 ^ k))=((p / 2*2 ^ (k+1):Nat):Int)):=by rw [U.at_];exact not_at hk2 tp
    clear fin U B tp bn tb X1 HC hb
    go_wp2_with fail
    go_quiet ((go_at_call 88;refine Calls.quiet_of_same (HC'.out _ (below_drewN (Below.refl _ _) _))))
    go_wp2_with fail
    go_region_with (refine Calls.mono (DC.out _ (below_drew (below_drewN (Below.refl _ _) _))) ?_;rintro e u2 ⟨rfl,hB2⟩)
    go_wp2_with fail
    go_roundw
    case rel=>exact ⟨k+1,_,by omega,by omega,by rw [X2.out],by go_num,⟨_,_,U2.out,hB2⟩⟩
    case measure=>simp [intOf];omega
  . have HC':Hid (∀ W',Below wr.heap.size wr W'->Calls Tryd.prog 88 #[.pointer (some ⟨b,k*2,none⟩),.int .i64 (bits .xor .i64 y (wrap64 (2 ^ k)))] W' fun e w'=>e=.returned (.bool false)/\w'=W'):=fun W' h=>by
     have r:=HC.out W' h
     simp only [hb,decide_false] at r
     exact r
    have FN:=fin (Or.inr hb)
    clear fin U B tp bn tb X1 HC hb
    go_wp2_with fail
    go_quiet ((go_at_call 88;refine Calls.quiet_of_same (HC'.out _ (below_drewN (Below.refl _ _) _))))
    go_wp2_with fail
    refine Calls.mono (FN.out _ (below_drewN (Below.refl _ _) _)) ?_
    rintro e u ⟨rfl,hB⟩
    go_wp2_with fail
    go_returns
    exact ⟨rfl,hB⟩
end Go.Proofs.YtkiclbnbnjbcaaaDoor.Bd
