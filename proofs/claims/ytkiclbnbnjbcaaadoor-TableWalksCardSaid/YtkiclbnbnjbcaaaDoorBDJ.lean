import Derived.Test.YtkiclbnbnjbcaaaDoorBDH
import Derived.Test.YtkiclbnbnjbcaaaDoorBDI
namespace Go.Proofs.YtkiclbnbnjbcaaaDoor.Bd
open Go.ChangeShapes Go.WideShapes Go.ChangeAt Go.RowKit Go.Maps
set_option linter.unusedSimpArgs false
set_option linter.unusedVariables false
set_option maxRecDepth 8000
theorem Bt.look {w W:World} {base b gb N:Nat} {mbs:Nat->Nat} {svs:Nat->Value} {A:Nat->Int->Prop} {G:Int->Option Int} (H:Bt w W base b gb mbs svs N A G) {x:Int} (hx:(Lit.int .i64 x).wf=true):(Instr.lookup 108 (.map (some gb)) (.int .i64 x) true).run Tryd.prog W=.ok (.tuple #[.int .i64 ((G x).getD 0),.bool (G x).isSome]) W/\W.cell? ⟨b,22,none⟩=some (.map (some gb))/\b<W.heap.size:=by
 obtain ⟨C,s,h1,h2,h3⟩:=H
 obtain ⟨n,hn',hm⟩:=h1.gm
 have bk:=h1.blk
 exact ⟨hm.look hx,by rw [bk.1.cell,h1.cg],blk_lt bk.1⟩
theorem Bt.del {w W:World} {base b gb N:Nat} {mbs:Nat->Nat} {svs:Nat->Value} {A:Nat->Int->Prop} {G:Int->Option Int} (H:Bt w W base b gb mbs svs N A G) {x:Int} (hx:(Lit.int .i64 x).wf=true): ∃ w',(Builtin.delete_ #[108,3] 0 #[.map (some gb),.int .i64 x]).run Tryd.prog W=.ok (.tuple #[]) w'/\Bt w w' base b gb mbs svs N A (setF G x none):=by
 obtain ⟨C,s,h1,h2,h3⟩:=H
 obtain ⟨n,hn',hm⟩:=h1.gm
 obtain ⟨w',r,⟨c',m'⟩,g'⟩:=hm.del hx 0
 have bk:=h1.blk
 exact ⟨w',r,C,s,h1.give (Nat.le_refl _) g' ⟨_,Nat.le_trans m'.count hn',m'.tight⟩,h2.trans (Kf.grown g' (Or.inr (Or.inl rfl))),h3⟩
set_option maxHeartbeats 1000000 in
theorem Bt.give {w W:World} {base b gb N:Nat} {mbs:Nat->Nat} {svs:Nat->Value} {F:Nat->Prop} {G:Int->Option Int} (H:Bt w W base b gb mbs svs N (can F) G) (hF:Bnd F) (k q:Nat) (hk:k<=10) (hq:q*2 ^ k+2 ^ k<=1048576) (hd: ∀ i,i / 2 ^ k=q-> ¬ F i) (hn:N<1048576) {x:Int} (hx:x=((q*2 ^ k:Nat):Int)) (hg:G x=some (k:Int)) :
 Calls Tryd.prog 74 #[.pointer (some ⟨b,0,none⟩),.int .i64 x] W fun e w'=>e=.returned (.int .i64 0)/\Bt w w' base b gb mbs svs (N+1) (can (fun i=>F i\/i / 2 ^ k=q)) (setF G x none):=by
 have wx:(Lit.int .i64 x).wf=true:=wf64 (by rw [hx];generalize q*2 ^ k=X at *;omega) (by rw [hx];have:=p2pos k;generalize 2 ^ k=Q at *;generalize q*Q=X at *;omega)
 obtain ⟨lk,c22,lb⟩:=H.look wx
 rw [hg] at lk
 simp only [Option.getD_some,Option.isSome_some] at lk
 obtain ⟨w1,rd,B1⟩:=H.del wx
 obtain ⟨s,B2,back⟩:=B1.then
 have RC:Hid (Calls Tryd.prog 78 #[.pointer (some ⟨b,0,none⟩),.int .i64 x,.int .i64 k] w1 fun e w'=>e=.returned (.tuple #[])/\Bt w w' base b gb mbs svs (N+1) (can (fun i=>F i\/i / 2 ^ k=q)) (setF G x none)):=by
  have r:=rel_any base b gb N mbs s F (setF G x none) k q hk hq hd hF hn w1 B2
  rw [<- hx] at r
  refine r.mono ?_
  rintro e w' ⟨he,h⟩
  exact ⟨he,back _ _ _ _ h⟩
 clear H hx hg hd hF hq B1 B2 back wx
 go_enter Tryd.func74,Tryd.ntmps74
 go_wp2_with fail
 refine Calls.mono RC.out ?_
 rintro e w2 ⟨rfl,hB⟩
 have HB:Hid (Bt w w2 base b gb mbs svs (N+1) (can (fun i=>F i\/i / 2 ^ k=q)) (setF G x none)):=hB
 clear hB RC
 go_wp2_with fail
 go_ret
 exact ⟨rfl,HB.out⟩
end Go.Proofs.YtkiclbnbnjbcaaaDoor.Bd
