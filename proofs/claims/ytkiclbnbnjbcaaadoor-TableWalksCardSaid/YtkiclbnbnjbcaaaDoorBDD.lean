import Derived.Test.YtkiclbnbnjbcaaaDoorBDC
namespace Go.Proofs.YtkiclbnbnjbcaaaDoor.Bd
open Go.ChangeShapes Go.WideShapes Go.ChangeAt Go.RowKit Go.Maps
set_option linter.unusedSimpArgs false
set_option linter.unusedVariables false
set_option maxRecDepth 8000
def Ob (b gb:Nat) (mbs:Nat->Nat) (svs:Nat->Value) (k:Nat):Prop:=k=b\/k=gb\/ ∃ o,o<11/\(k=mbs o\/(svs o).ownBlock=some k)
def Bt (w W:World) (base b gb:Nat) (mbs:Nat->Nat) (svs:Nat->Value) (N:Nat) (A:Nat->Int->Prop) (G:Int->Option Int):Prop :=
 ∃ C' svs',Bd W base b gb N C' mbs svs' A G/\Kf (Ob b gb mbs svs) w W/\ ∀ o,o<11->(svs' o).ownBlock=(svs o).ownBlock\/ ∃ g,(svs' o).ownBlock=some g/\w.heap.size<=g
theorem Bt.refl {w:World} {base b gb N:Nat} {C:List Value} {mbs:Nat->Nat} {svs:Nat->Value} {A:Nat->Int->Prop} {G:Int->Option Int} (H:Bd w base b gb N C mbs svs A G):Bt w w base b gb mbs svs N A G:=⟨C,svs,H,Kf.refl _ _,fun _ _=>Or.inl rfl⟩
theorem Bt.below {w W:World} {base b gb N:Nat} {mbs:Nat->Nat} {svs:Nat->Value} {A:Nat->Int->Prop} {G:Int->Option Int} (H:Bt w W base b gb mbs svs N A G) {W':World} (hb:Below W.heap.size W W'):Bt w W' base b gb mbs svs N A G:=by
 obtain ⟨C,s,h1,h2,h3⟩:=H
 exact ⟨C,s,h1.below hb,h2.trans (Kf.below hb),h3⟩
theorem Bt.turn {w W W':World} {base b gb N N':Nat} {C:List Value} {mbs:Nat->Nat} {svs s1:Nat->Value} {A:Nat->Int->Prop} {G:Int->Option Int} (h1:Bd W base b gb N C mbs s1 A G) (h2:Kf (Ob b gb mbs svs) w W) (h3: ∀ o,o<11->(s1 o).ownBlock=(svs o).ownBlock\/ ∃ g,(s1 o).ownBlock=some g/\w.heap.size<=g)
 (o:Nat) (ho:o<11) {sv':Value} {A':Int->Prop} (hN:N<=N') (hB:Bs W' base b (o*2) (mbs o) N' (C.set (o*2+1) sv') sv' A') (hk:Kf (fun k=>k=b\/k=mbs o\/(s1 o).ownBlock=some k) W W') (hs:sv'.ownBlock=(s1 o).ownBlock\/ ∃ g,sv'.ownBlock=some g/\W.heap.size<=g):Bt w W' base b gb mbs svs N' (upd A o A') G:=by
 refine ⟨_,_,h1.turn o ho hN hB hk hs,h2.next hk (fun j hj e=> ?_),fun k hk'=> ?_⟩
 . rcases e with e | e | e
   . exact Or.inl e
   . exact Or.inr (Or.inr ⟨o,ho,Or.inl e⟩)
   . rcases h3 o ho with q | ⟨g,q,lg⟩
     . exact Or.inr (Or.inr ⟨o,ho,Or.inr (q.symm.trans e)⟩)
     . rw [q] at e;have:=Option.some.inj e;omega
 . by_cases c:k=o
   . subst c
     rw [upd_same]
     rcases hs with q | ⟨g,q,lg⟩
     . rw [q];exact h3 k hk'
     . exact Or.inr ⟨g,q,Nat.le_trans h2.size lg⟩
   . rw [upd_other _ _ _ _ c];exact h3 k hk'
theorem Bt.add {w W:World} {base b gb N:Nat} {mbs:Nat->Nat} {svs:Nat->Value} {A:Nat->Int->Prop} {G:Int->Option Int} (H:Bt w W base b gb mbs svs N A G) (o:Nat) (ho:o<11) (x:Int) (hx:0<=x/\x<1048576) (hn:N<1048576) (nA: ¬ A o x) :
 Calls Tryd.prog 90 #[.pointer (some ⟨b,o*2,none⟩),.int .i64 x] W fun e w'=>e=.returned (.tuple #[])/\Bt w w' base b gb mbs svs (N+1) (upd A o (fun a=>A o a\/a=x)) G:=by
 obtain ⟨C,s,h1,h2,h3⟩:=H
 refine (add_any base b (o*2) (mbs o) N C (s o) (A o) x hx hn W h1.bb (h1.bs o ho) nA).mono ?_
 rintro e w' ⟨sv',he,p1,p2,p3⟩
 exact ⟨he,Bt.turn h1 h2 h3 o ho (by omega) p1 p2 p3⟩
theorem Bt.drop {w W:World} {base b gb N:Nat} {mbs:Nat->Nat} {svs:Nat->Value} {A:Nat->Int->Prop} {G:Int->Option Int} (H:Bt w W base b gb mbs svs N A G) (o:Nat) (ho:o<11) (x:Int) (hn:N<=1048576) (aA:A o x) :
 Calls Tryd.prog 89 #[.pointer (some ⟨b,o*2,none⟩),.int .i64 x] W fun e w'=>e=.returned (.tuple #[])/\Bt w w' base b gb mbs svs N (upd A o (fun a=>A o a/\a≠x)) G:=by
 obtain ⟨C,s,h1,h2,h3⟩:=H
 refine (drop_any base b (o*2) (mbs o) N C (s o) (A o) x hn W (h1.bs o ho) aA).mono ?_
 rintro e w' ⟨sv',he,p1,p2,p3⟩
 exact ⟨he,Bt.turn h1 h2 h3 o ho (Nat.le_refl _) p1 p2 (Or.inl p3)⟩
theorem Bt.low {w W:World} {base b gb N:Nat} {mbs:Nat->Nat} {svs:Nat->Value} {A:Nat->Int->Prop} {G:Int->Option Int} (H:Bt w W base b gb mbs svs N A G) (o:Nat) (ho:o<11) (hn:N<=1048576) (ne: ∃ a,A o a) :
 Calls Tryd.prog 92 #[.pointer (some ⟨b,o*2,none⟩)] W fun e w'=> ∃ x,e=.returned (.int .i64 x)/\(A o x/\ ∀ a,A o a->x<=a)/\Bt w w' base b gb mbs svs N (upd A o (fun a=>A o a/\a≠x)) G:=by
 obtain ⟨C,s,h1,h2,h3⟩:=H
 refine (low_any base b (o*2) (mbs o) N C (s o) (A o) hn W (h1.bs o ho) ne).mono ?_
 rintro e w' ⟨sv',x,he,p0,p1,p2,p3⟩
 exact ⟨x,he,p0,Bt.turn h1 h2 h3 o ho (Nat.le_refl _) p1 p2 (Or.inl p3)⟩
open Classical in
theorem Bt.has {w W:World} {base b gb N:Nat} {mbs:Nat->Nat} {svs:Nat->Value} {A:Nat->Int->Prop} {G:Int->Option Int} (H:Bt w W base b gb mbs svs N A G) (o:Nat) (ho:o<11) (x:Int) (hx: -1048576<=x/\x<1048576) :
 Calls Tryd.prog 88 #[.pointer (some ⟨b,o*2,none⟩),.int .i64 x] W fun e w'=>e=.returned (.bool (decide (A o x)))/\w'=W:=by
 obtain ⟨C,s,h1,h2,h3⟩:=H
 exact has_any base b (o*2) (mbs o) N C (s o) (A o) x hx W (h1.bs o ho)
theorem Bt.len {w W:World} {base b gb N:Nat} {mbs:Nat->Nat} {svs:Nat->Value} {A:Nat->Int->Prop} {G:Int->Option Int} (H:Bt w W base b gb mbs svs N A G) (o:Nat) (ho:o<11): ∃ m:Nat,(m=0↔ ∀ a,¬ A o a)/\m<=N/\Hid (Calls Tryd.prog 44 #[.pointer (some ⟨b,o*2,none⟩)] W fun e w'=>e=.returned (.int .i64 m)/\w'=W):=by
 obtain ⟨C,s,h1,h2,h3⟩:=H
 exact blen_any base b (o*2) (mbs o) N C (s o) (A o) W (h1.bs o ho)
theorem Bt.note {w W:World} {base b gb N:Nat} {mbs:Nat->Nat} {svs:Nat->Value} {A:Nat->Int->Prop} {G:Int->Option Int} (H:Bt w W base b gb mbs svs N A G) {x v:Int} (hx:(Lit.int .i64 x).wf=true) (hv:(Lit.int .i64 v).wf=true) (hn:N<maxLen): ∃ w',W.cell? ⟨b,22,none⟩=some (.map (some gb))/\b<W.heap.size/\(Instr.mapUpdate 108 (.map (some gb)) (.int .i64 x) (.int .i64 v)).run Tryd.prog W=.ok () w'/\Bt w w' base b gb mbs svs (N+1) A (setF G x (some v)):=by
 obtain ⟨C,s,h1,h2,h3⟩:=H
 obtain ⟨n,hn',hm⟩:=h1.gm
 obtain ⟨w',r,m',g'⟩:=hm.set (by omega) hx hv
 have bk:=h1.blk
 refine ⟨w',by rw [bk.1.cell,h1.cg],blk_lt bk.1,r,C,s,h1.give (by omega) g' ⟨_,?_,m'.tight⟩,h2.trans (Kf.grown g' (Or.inr (Or.inl rfl))),h3⟩
 split <;> omega
end Go.Proofs.YtkiclbnbnjbcaaaDoor.Bd
