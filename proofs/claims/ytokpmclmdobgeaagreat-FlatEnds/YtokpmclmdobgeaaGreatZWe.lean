import Derived.Test.YtokpmclmdobgeaaGreatJTe
import Derived.Test.YtokpmclmdobgeaaGreatJRe
import Derived.Test.YtokpmclmdobgeaaGreatCWe
set_option linter.unusedSimpArgs false
set_option linter.unusedVariables false
set_option maxRecDepth 8000
open Go.ChangeShapes Go.WideShapes Go.ChangeAt Go.RowKit Go.Maps
namespace Go.Proofs.YtokpmclmdobgeaaGreat.Fl
section
variable {O:Nat->Nat} {n:Nat} {W:World} {M:Mb} {root:Int} {s:Sa}
theorem Is.do (h:Is O n W M root s) (hn:n<90000000000) (i:Nat) (hQ:Ca.nowV s.Q.L=(i:Nat)) (D:Ca.Wd) (hD:D.wf) (c:Ca.Cl) (hc:Ca.Says D c) (X E fa fc:Int) (up:Bool) (s':Sa) (hS:Srv M root i c s (Ro X E fa fc up) s') :
 Calls Tryz.prog 7 #[pp M.mb,D.val] W fun e w'=>e=.returned (.agg (sw (i:Nat) X E fa fc up))/\Tx O W (fun O' V=>Is O' (n+400000) V M root s') w':=by
 obtain ⟨A,B,ρ,m,ab,nm⟩:=h
 have rd:=fun w=>Ca.read_yes D hD c hc w
 obtain ⟨op,k1,k2,k3,k4,k5,ad,sz,x,k6,k7,k8,k9⟩:=c
 obtain ⟨v0,v1,v2,v3,v4,v5⟩:=D
 exact m.do_ok i hQ v0 v1 v2 v3 v4 v5 op k1 k2 k3 k4 k5 ad sz x k6 k7 k8 k9 X E fa fc up (fun O' V=>Is O' (n+400000) V M root s') (Is.sta _ _ _ _) rd fun w hw=>hS O n w ⟨A,B,ρ,hw,ab,nm⟩ hn
theorem Is.do_bad (h:Is O n W M root s) (i:Nat) (hQ:Ca.nowV s.Q.L=(i:Nat)) (D:Ca.Wd) (hD:D.wf) (hc: ¬ ∃ c,Ca.Says D c) :
 Calls Tryz.prog 7 #[pp M.mb,D.val] W fun e w'=>e=.returned (.agg (sw (i:Nat) 0 13 0 0 false))/\Tx O W (fun O' V=>Is O' (n+400000) V M root s) w':=by
 obtain ⟨A,B,ρ,m,ab,nm⟩:=h
 have rd:=fun w=>Ca.read_no D hD hc w
 obtain ⟨v0,v1,v2,v3,v4,v5⟩:=D
 refine Calls.mono (m.do_bad i hQ v0 v1 v2 v3 v4 v5 0 0 0 false false false 0 0 0 0 0 0 0 13 kh rd) ?_
 rintro e w' ⟨rfl,hb⟩
 exact ⟨rfl,O,⟨A,B,ρ,(m.below hb).more (by omega),ab,nm⟩,fun _ _=>rfl,(m.below hb).lt,Ko.of_below hb⟩
theorem Is.tick (h:Is O n W M root s) (g:Ca.Good s.Q) :
 Calls Tryz.prog 8 #[pp M.mb] W fun e w'=>e=.returned (.tuple #[.bool (Ca.tckB s.Q),.int .i64 0])/\Tx O W (fun O' V=>Is O' (n+400000) V M root { s with Q:=Ca.tckS s.Q }) w':=by
 obtain ⟨A,B,ρ,m,ab,nm⟩:=h
 refine Calls.mono (m.tick g) ?_
 rintro e w' ⟨rfl,hx⟩
 exact ⟨rfl,Is.same m.lt ab nm (by omega) hx⟩
theorem Is.line (h:Is O n W M root s):Calls Tryz.prog 10 #[pp M.mb] W fun e w'=>(∃ p c,e=.returned (.slice p s.Q.L.length c)/\Ca.IsI w' p s.Q.L W.heap.size)/\bc W w':=by
 obtain ⟨A,B,ρ,m,ab,nm⟩:=h
 exact m.line
theorem Is.used (h:Is O n W M root s) {i:Nat} (hi:i<16) {P:Pr} (hP:s.A i=some P):Calls Tryz.prog 11 #[pp M.mb,.int .i64 (i:Nat)] W (re (.int .i64 (Qo.getN s.T P.k).used) W):=by
 obtain ⟨A,B,ρ,m,ab,nm⟩:=h
 obtain ⟨R,hR,hab⟩:=ab.at hP
 rw [<- hab.k]
 exact m.used hi hR
theorem Is.used_no (h:Is O n W M root s) (i:Int) (hw:(Lit.int .i64 i).wf=true) (hP: ∀ j:Nat,i=(j:Nat)->j<16->s.A j=none):Calls Tryz.prog 11 #[pp M.mb,.int .i64 i] W fun e w'=>e=.returned (.int .i64 (-1))/\w'=W:=by
 obtain ⟨A,B,ρ,m,ab,nm⟩:=h
 refine m.used_no i hw ?_
 unfold prF
 split
 . rename_i c
   rw [ab.nobody (hP i.toNat (by omega) (by omega))];rfl
 . rfl
def bootS (u t q:Int):Sa:=⟨⟨q,0,[0]⟩,Qo.chargeT (kidT (Qo.chargeT (Qo.rootT u) 0 t) (u-t)) 1 1,Sh.zT,setA (fun _=>none) 0 (some ⟨0,0,0,0,1,Tr.St.zero,none,0,[],fun _=>none,fun _ _=>none⟩),fun _ _=>0,0⟩
theorem Is.boot (u t q:Int) (t0:0<=t) (tu:t+1<=u) (u1:u<=1048576) (q0:1<=q) (q1:q<=1000) (W:World) :
 Calls Tryz.prog 6 #[.int .i64 u,.int .i64 t,.int .i64 q] W fun e w'=> ∃ (O:Nat->Nat) (M:Mb),e=.returned (.tuple #[pp M.mb,.int .i64 0])/\Is O 1 w' M u (bootS u t q)/\(∀ j,j<W.heap.size->O j=0)/\bc W w':=by
 refine Calls.mono (boot_many u t q t0 tu u1 q0 q1 W) ?_
 rintro e w' ⟨O,M,pb,lb,wb,rfl,m,o0,hb⟩
 refine ⟨O,M,rfl,⟨_,_,id,m,AbA.set (A:=fun _=>none) (A':=fun _=>none) (fun _=>Or.inl ⟨rfl,rfl⟩) 0 ⟨rfl,rfl,rfl,rfl,rfl,fun _=>rfl⟩,⟨fun c c' hc=>absurd hc (Nat.not_lt_zero _),fun c hc=>absurd hc (Nat.not_lt_zero _),fun j P p c h1 h2=> ?_⟩⟩,o0,hb⟩
 . have h1:setA (fun _=>none) 0 _ j=some P:=h1
   by_cases cj:j=0
   . subst cj;rw [setA_same] at h1;cases h1;cases h2
   . rw [setA_other _ _ _ _ cj] at h1;cases h1
end
end Go.Proofs.YtokpmclmdobgeaaGreat.Fl
