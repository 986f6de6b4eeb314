import Derived.Test.YtkiclbnbnjbcaaaDoorBD4
namespace Go.Proofs.YtkiclbnbnjbcaaaDoor.Bd
open Go.ChangeShapes Go.WideShapes Go.ChangeAt Go.RowKit Go.Maps
set_option linter.unusedSimpArgs false
set_option linter.unusedVariables false
set_option maxRecDepth 8000
set_option maxHeartbeats 2000000 in
theorem pop_any (base b q mb n:Nat) (C:List Value) (sv:Value) (h:List Int) (F:Int->Option Int) (x:Int) (hx:0<=x/\x<1048576) (hl:h.length<=1048576) (w:World) (H:Bl w base b q mb n C sv (h++[x]) F) :
 Calls Tryd.prog 116 #[.pointer (some ⟨b,q,none⟩)] w fun e w'=> ∃ sv' n',e=.returned (.iface 3 (.int .i64 x))/\n'<=n/\Bl w' base b q mb n' (C.set (q+1) sv') sv' h (setF F x none)/\Kf (fun k=>k=b\/k=mb\/sv.ownBlock=some k) w w'/\sv'.ownBlock=sv.ownBlock:=by
 have wx:(Lit.int .i64 x).wf=true:=wf64 (by omega) (by omega)
 obtain ⟨p,c,hv,rd⟩:=H.read
 have ll:(h++[x]).length=h.length+1:=by simp
 obtain ⟨g,rfl,bg,lg,rx⟩:=rd h.length (by omega)
 have rx':w.cell? ⟨g,h.length,none⟩=some (.int .i64 x):=by rw [rx];simp
 rw [ll] at hv
 have hg:sv.ownBlock=some g:=by rw [hv];rfl
 have hs: ∀ k,k≠b->(w.setCell ⟨b,q+1,none⟩ (.slice (some ⟨g,0,none⟩) h.length c)).heap[k]? =w.heap[k]? :=fun k hk=>Below.heap_setCell _ _ _ _ hk
 obtain ⟨W1,hW1⟩: ∃ W1,W1=w.setCell ⟨b,q+1,none⟩ (.slice (some ⟨g,0,none⟩) h.length c):=⟨_,rfl⟩
 rw [<- hW1] at hs
 have M1:MapC W1 mb n n F:=H.mp.block (hs mb (fun e=>H.ne e.symm))
 obtain ⟨w2,r2,⟨n',m2⟩,g2⟩:=M1.del wx 0
 have nn:n'<=n:=m2.count
 have gp:=getP C q (.slice (some ⟨g,0,none⟩) h.length c) sv H.cs
 have ng:=H.nb g hg
 have b1:Blk W1 b (C.set (q+1) (.slice (some ⟨g,0,none⟩) h.length c)) 113:=by rw [hW1];exact H.blk.set (q+1) _
 have b2:Blk w2 b (C.set (q+1) (.slice (some ⟨g,0,none⟩) h.length c)) 113:=(g2.block b (blk_lt b1) (fun e=>H.ne (Option.some.inj e))).trans b1
 have row0:w.ownsRow base 3 1 (.slice (some ⟨g,0,none⟩) h.length c) h.length (h.map (Value.int .i64)):=by
  have o:=H.own
  rw [hv,ll,List.map_append] at o
  exact ownsRow_pop (by simp) o
 have row2:w2.ownsRow base 3 1 (.slice (some ⟨g,0,none⟩) h.length c) h.length (h.map (Value.int .i64)):=by
  refine row_keep row0 (fun g' e=> ?_)
  cases e
  have lg1:g<W1.heap.size:=(Array.getElem?_eq_some_iff.1 ((hs g ng.1).trans (Array.getElem?_eq_getElem lg))).1
  exact (g2.block g lg1 (fun e=>ng.2 (Option.some.inj e))).trans (hs g ng.1)
 have BL:Hid (Bl w2 base b q mb n' (C.set (q+1) (.slice (some ⟨g,0,none⟩) h.length c)) (.slice (some ⟨g,0,none⟩) h.length c) h (setF F x none)) :=
  ⟨b2,gp.1.trans H.cm,gp.2,row2,m2.tight,H.ne,fun g' e=>by cases e;exact ng,H.lb⟩
 have KK:Hid (Kf (fun k=>k=b\/k=mb\/sv.ownBlock=some k) w w2):=by
  have k1:Kf (fun k=>k=b\/k=mb\/sv.ownBlock=some k) w W1:=by rw [hW1];exact Kf.set w b (q+1) _ (Or.inl rfl)
  exact k1.trans (Kf.grown g2 (Or.inr (Or.inl rfl)))
 have OB:Hid ((Value.slice (some ⟨g,0,none⟩) h.length c).ownBlock=sv.ownBlock):=by show _=_;rw [hg];rfl
 have c0:w.cell? ⟨b,q,none⟩=some (.map (some mb)):=by rw [H.blk.cell,H.cm]
 have c1:w.cell? ⟨b,q+1,none⟩=some (.slice (some ⟨g,0,none⟩) (h.length+1) c):=by rw [H.blk.cell,H.cs,hv]
 have f1:w.frozen? ⟨b,q+1,none⟩=false:=H.blk.free (q+1)
 have lbk:b<w.heap.size:=blk_lt H.blk
 have gb:g≠b:=ng.1
 have gb':b≠g:=fun e=>ng.1 e.symm
 have capc:h.length+1<=c:=by
  obtain ⟨_,⟨e0,_⟩ | ⟨g',cap,cur,e1,_,_,e4,_⟩⟩:=H.own
  . rw [hv] at e0;cases e0
  . rw [hv] at e1
    simp only [Value.slice.injEq] at e1
    rw [e1.2.2];omega
 subst hW1
 obtain ⟨n0,hn0⟩: ∃ n0,n0=h.length:=⟨_,rfl⟩
 rw [<- hn0] at c1 rx' r2 capc hl BL OB
 clear H rd rx ll hs M1 m2 gp ng b1 b2 row0 row2 g2 hv hg hn0
 have i0:decide ((n0:Int)<0)=false:=by simp
 have i1:decide ((n0:Int)<(n0:Int)+1)=true:=by simp;omega
 go_enter Tryd.func116,Tryd.ntmps116
 go_wp2_with fail
 go_ret
 exact ⟨_,n',rfl,nn,BL.out,KK.out,OB.out⟩
end Go.Proofs.YtkiclbnbnjbcaaaDoor.Bd
