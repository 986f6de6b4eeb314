import Derived.Test.YtgbdnnkkcpkhdaaGreatDoorMRc
import Derived.Laws.Rows
import Derived.Stop.BytesEq
set_option linter.unusedSimpArgs false
set_option linter.unusedVariables false
set_option maxRecDepth 8000
set_option maxHeartbeats 400000
open Go.ChangeShapes Go.WideShapes Go.ChangeAt Go.RowKit Go.Maps
namespace Go.Proofs.YtgbdnnkkcpkhdaaGreatDoor
theorem grown_trans {a b c:World} (h:a.grownBy b none) (k:b.grownBy c none):a.grownBy c none :=
 ⟨k.os.trans h.os,k.tape.trans h.tape,k.output.trans h.output,Nat.le_trans h.size k.size,fun j hj hne=>(k.block j (nla hj h.size) hne).trans (h.block j hj hne)⟩
def HasOk (w:World) (rb:Nat) (S:List Nat) (has:Int->Bool):Prop :=
 rb∈S/\(∀ s,s∈S->s<w.heap.size)/\ ∀ w1:World,(∀ s,s∈S->w1.heap[s]? =w.heap[s]?)->w.heap.size<=w1.heap.size-> ∀ k:Int,
  Calls Tryz.prog 62 #[.pointer (some ⟨rb,0,none⟩),.int .i64 k] w1 fun e w2=>e=.returned (.bool (has k))/\w1.grownBy w2 none
theorem HasOk.keep {w w':World} {rb:Nat} {S:List Nat} {has:Int->Bool} (h:HasOk w rb S has) (hb: ∀ s,s∈S->w'.heap[s]? =w.heap[s]?) (hs:w.heap.size<=w'.heap.size):HasOk w' rb S has:=by
 obtain ⟨h1,h2,h3⟩:=h
 exact ⟨h1,fun s hs'=>nla (h2 s hs') hs,fun w1 e1 e2 k=>h3 w1 (fun s hs'=>(e1 s hs').trans (hb s hs')) (Nat.le_trans hs e2) k⟩
def chkG (has:Int->Bool) (addr size:Int):Int :=
 if size=1\/size=2\/size=4\/size=8 then
  if addr+size<=18446744073709551616/\has (addr / 4096)=true/\has ((addr+size-1) / 4096)=true then 0 else 2
 else 1
theorem checkG_1 (rb:Nat) (S:List Nat) (has:Int->Bool) (addr:Int) (w:World) (h0:0<=addr) (h1:addr<18446744073709551616) (hk:HasOk w rb S has) :
 Calls Tryz.prog 73 #[.pointer (some ⟨rb,0,none⟩),.int .u64 addr,.int .i64 1] w fun e w'=>e=.returned (.int .i64 (chkG has addr 1))/\w.grownBy w' none:=by
 have hh:Hid (∀ (k:Int) (w1:World),w.grownBy w1 none ->
  Calls Tryz.prog 62 #[.pointer (some ⟨rb,0,none⟩),.int .i64 k] w1 fun e w2=>e=.returned (.bool (has k))/\w.grownBy w2 none):=by
  intro k w1 hg
  refine (hk.2.2 w1 (fun s hs=>hg.block s (hk.2.1 s hs) (by simp)) hg.size k).mono ?_
  rintro e w2 ⟨he,hg2⟩
  exact ⟨he,grown_trans hg hg2⟩
 clear hk
 have sz:(1:Int)=1\/(1:Int)=2\/(1:Int)=4\/(1:Int)=8:=by omega
 by_cases o:addr+1<=18446744073709551616
 . have el:addr+1-1=addr:=by omega
   have hle:addr<18446744073709551616:=by omega
   have hnl: ¬ addr<addr:=by omega
   cases g1:has (addr / 4096)
   . have HC:Hid (chkG has addr 1=2):=by show chkG has addr 1=2;unfold chkG;rw [if_pos sz,if_neg (by rw [g1];simp)]
     clear el sz
     go_enter Tryz.func73,Tryz.ntmps73
     go_wp2_with fail
     refine (hh.out _ _ (World.grownBy.refl _ _)).mono ?_
     rintro e w1 ⟨rfl,hg1⟩
     go_wp2_with fail
     go_ret
     exact ⟨by rw [HC.out];rfl,hg1⟩
   . cases g2:has ((addr) / 4096)
     . have HC:Hid (chkG has addr 1=2):=by show chkG has addr 1=2;unfold chkG;rw [if_pos sz,el,if_neg (by rw [g2];simp)]
       clear el sz
       rw [g1] at g2;cases g2
     . have HC:Hid (chkG has addr 1=0):=by show chkG has addr 1=0;unfold chkG;rw [if_pos sz,el,if_pos ⟨o,g1,g2⟩]
       clear el sz
       go_enter Tryz.func73,Tryz.ntmps73
       go_wp2_with fail
       refine (hh.out _ _ (World.grownBy.refl _ _)).mono ?_
       rintro e w1 ⟨rfl,hg1⟩
       go_wp2_with fail
       refine (hh.out _ _ hg1).mono ?_
       rintro e w2 ⟨rfl,hg2⟩
       go_wp2_with fail
       go_ret
       exact ⟨by rw [HC.out];rfl,hg2⟩
 . omega
theorem checkG_2 (rb:Nat) (S:List Nat) (has:Int->Bool) (addr:Int) (w:World) (h0:0<=addr) (h1:addr<18446744073709551616) (hk:HasOk w rb S has) :
 Calls Tryz.prog 73 #[.pointer (some ⟨rb,0,none⟩),.int .u64 addr,.int .i64 2] w fun e w'=>e=.returned (.int .i64 (chkG has addr 2))/\w.grownBy w' none:=by
 have hh:Hid (∀ (k:Int) (w1:World),w.grownBy w1 none ->
  Calls Tryz.prog 62 #[.pointer (some ⟨rb,0,none⟩),.int .i64 k] w1 fun e w2=>e=.returned (.bool (has k))/\w.grownBy w2 none):=by
  intro k w1 hg
  refine (hk.2.2 w1 (fun s hs=>hg.block s (hk.2.1 s hs) (by simp)) hg.size k).mono ?_
  rintro e w2 ⟨he,hg2⟩
  exact ⟨he,grown_trans hg hg2⟩
 clear hk
 have sz:(2:Int)=1\/(2:Int)=2\/(2:Int)=4\/(2:Int)=8:=by omega
 by_cases o:addr+2<=18446744073709551616
 . have el:addr+2-1=addr+1:=by omega
   have hle:addr+1<18446744073709551616:=by omega
   have hnl: ¬ addr+1<addr:=by omega
   cases g1:has (addr / 4096)
   . have HC:Hid (chkG has addr 2=2):=by show chkG has addr 2=2;unfold chkG;rw [if_pos sz,if_neg (by rw [g1];simp)]
     clear el sz
     go_enter Tryz.func73,Tryz.ntmps73
     go_wp2_with fail
     refine (hh.out _ _ (World.grownBy.refl _ _)).mono ?_
     rintro e w1 ⟨rfl,hg1⟩
     go_wp2_with fail
     go_ret
     exact ⟨by rw [HC.out];rfl,hg1⟩
   . cases g2:has ((addr+1) / 4096)
     . have HC:Hid (chkG has addr 2=2):=by show chkG has addr 2=2;unfold chkG;rw [if_pos sz,el,if_neg (by rw [g2];simp)]
       clear el sz
       go_enter Tryz.func73,Tryz.ntmps73
       go_wp2_with fail
       refine (hh.out _ _ (World.grownBy.refl _ _)).mono ?_
       rintro e w1 ⟨rfl,hg1⟩
       go_wp2_with fail
       refine (hh.out _ _ hg1).mono ?_
       rintro e w2 ⟨rfl,hg2⟩
       go_wp2_with fail
       go_ret
       exact ⟨by rw [HC.out];rfl,hg2⟩
     . have HC:Hid (chkG has addr 2=0):=by show chkG has addr 2=0;unfold chkG;rw [if_pos sz,el,if_pos ⟨o,g1,g2⟩]
       clear el sz
       go_enter Tryz.func73,Tryz.ntmps73
       go_wp2_with fail
       refine (hh.out _ _ (World.grownBy.refl _ _)).mono ?_
       rintro e w1 ⟨rfl,hg1⟩
       go_wp2_with fail
       refine (hh.out _ _ hg1).mono ?_
       rintro e w2 ⟨rfl,hg2⟩
       go_wp2_with fail
       go_ret
       exact ⟨by rw [HC.out];rfl,hg2⟩
 . have HC:Hid (chkG has addr 2=2):=by show chkG has addr 2=2;unfold chkG;rw [if_pos sz,if_neg (fun k=>o k.1)]
   have hw:IntKind.u64.wrap (addr+1)=addr+1-18446744073709551616:=kg
   have hl:addr+1-18446744073709551616<addr:=by omega
   clear o sz
   go_enter Tryz.func73,Tryz.ntmps73
   go_wp2_with fail
   go_ret
   exact ⟨by rw [HC.out];rfl,(World.grownBy.refl _ _)⟩
theorem checkG_4 (rb:Nat) (S:List Nat) (has:Int->Bool) (addr:Int) (w:World) (h0:0<=addr) (h1:addr<18446744073709551616) (hk:HasOk w rb S has) :
 Calls Tryz.prog 73 #[.pointer (some ⟨rb,0,none⟩),.int .u64 addr,.int .i64 4] w fun e w'=>e=.returned (.int .i64 (chkG has addr 4))/\w.grownBy w' none:=by
 have hh:Hid (∀ (k:Int) (w1:World),w.grownBy w1 none ->
  Calls Tryz.prog 62 #[.pointer (some ⟨rb,0,none⟩),.int .i64 k] w1 fun e w2=>e=.returned (.bool (has k))/\w.grownBy w2 none):=by
  intro k w1 hg
  refine (hk.2.2 w1 (fun s hs=>hg.block s (hk.2.1 s hs) (by simp)) hg.size k).mono ?_
  rintro e w2 ⟨he,hg2⟩
  exact ⟨he,grown_trans hg hg2⟩
 clear hk
 have sz:(4:Int)=1\/(4:Int)=2\/(4:Int)=4\/(4:Int)=8:=by omega
 by_cases o:addr+4<=18446744073709551616
 . have el:addr+4-1=addr+3:=by omega
   have hle:addr+3<18446744073709551616:=by omega
   have hnl: ¬ addr+3<addr:=by omega
   cases g1:has (addr / 4096)
   . have HC:Hid (chkG has addr 4=2):=by show chkG has addr 4=2;unfold chkG;rw [if_pos sz,if_neg (by rw [g1];simp)]
     clear el sz
     go_enter Tryz.func73,Tryz.ntmps73
     go_wp2_with fail
     refine (hh.out _ _ (World.grownBy.refl _ _)).mono ?_
     rintro e w1 ⟨rfl,hg1⟩
     go_wp2_with fail
     go_ret
     exact ⟨by rw [HC.out];rfl,hg1⟩
   . cases g2:has ((addr+3) / 4096)
     . have HC:Hid (chkG has addr 4=2):=by show chkG has addr 4=2;unfold chkG;rw [if_pos sz,el,if_neg (by rw [g2];simp)]
       clear el sz
       go_enter Tryz.func73,Tryz.ntmps73
       go_wp2_with fail
       refine (hh.out _ _ (World.grownBy.refl _ _)).mono ?_
       rintro e w1 ⟨rfl,hg1⟩
       go_wp2_with fail
       refine (hh.out _ _ hg1).mono ?_
       rintro e w2 ⟨rfl,hg2⟩
       go_wp2_with fail
       go_ret
       exact ⟨by rw [HC.out];rfl,hg2⟩
     . have HC:Hid (chkG has addr 4=0):=by show chkG has addr 4=0;unfold chkG;rw [if_pos sz,el,if_pos ⟨o,g1,g2⟩]
       clear el sz
       go_enter Tryz.func73,Tryz.ntmps73
       go_wp2_with fail
       refine (hh.out _ _ (World.grownBy.refl _ _)).mono ?_
       rintro e w1 ⟨rfl,hg1⟩
       go_wp2_with fail
       refine (hh.out _ _ hg1).mono ?_
       rintro e w2 ⟨rfl,hg2⟩
       go_wp2_with fail
       go_ret
       exact ⟨by rw [HC.out];rfl,hg2⟩
 . have HC:Hid (chkG has addr 4=2):=by show chkG has addr 4=2;unfold chkG;rw [if_pos sz,if_neg (fun k=>o k.1)]
   have hw:IntKind.u64.wrap (addr+3)=addr+3-18446744073709551616:=kg
   have hl:addr+3-18446744073709551616<addr:=by omega
   clear o sz
   go_enter Tryz.func73,Tryz.ntmps73
   go_wp2_with fail
   go_ret
   exact ⟨by rw [HC.out];rfl,(World.grownBy.refl _ _)⟩
theorem checkG_8 (rb:Nat) (S:List Nat) (has:Int->Bool) (addr:Int) (w:World) (h0:0<=addr) (h1:addr<18446744073709551616) (hk:HasOk w rb S has) :
 Calls Tryz.prog 73 #[.pointer (some ⟨rb,0,none⟩),.int .u64 addr,.int .i64 8] w fun e w'=>e=.returned (.int .i64 (chkG has addr 8))/\w.grownBy w' none:=by
 have hh:Hid (∀ (k:Int) (w1:World),w.grownBy w1 none ->
  Calls Tryz.prog 62 #[.pointer (some ⟨rb,0,none⟩),.int .i64 k] w1 fun e w2=>e=.returned (.bool (has k))/\w.grownBy w2 none):=by
  intro k w1 hg
  refine (hk.2.2 w1 (fun s hs=>hg.block s (hk.2.1 s hs) (by simp)) hg.size k).mono ?_
  rintro e w2 ⟨he,hg2⟩
  exact ⟨he,grown_trans hg hg2⟩
 clear hk
 have sz:(8:Int)=1\/(8:Int)=2\/(8:Int)=4\/(8:Int)=8:=by omega
 by_cases o:addr+8<=18446744073709551616
 . have el:addr+8-1=addr+7:=by omega
   have hle:addr+7<18446744073709551616:=by omega
   have hnl: ¬ addr+7<addr:=by omega
   cases g1:has (addr / 4096)
   . have HC:Hid (chkG has addr 8=2):=by show chkG has addr 8=2;unfold chkG;rw [if_pos sz,if_neg (by rw [g1];simp)]
     clear el sz
     go_enter Tryz.func73,Tryz.ntmps73
     go_wp2_with fail
     refine (hh.out _ _ (World.grownBy.refl _ _)).mono ?_
     rintro e w1 ⟨rfl,hg1⟩
     go_wp2_with fail
     go_ret
     exact ⟨by rw [HC.out];rfl,hg1⟩
   . cases g2:has ((addr+7) / 4096)
     . have HC:Hid (chkG has addr 8=2):=by show chkG has addr 8=2;unfold chkG;rw [if_pos sz,el,if_neg (by rw [g2];simp)]
       clear el sz
       go_enter Tryz.func73,Tryz.ntmps73
       go_wp2_with fail
       refine (hh.out _ _ (World.grownBy.refl _ _)).mono ?_
       rintro e w1 ⟨rfl,hg1⟩
       go_wp2_with fail
       refine (hh.out _ _ hg1).mono ?_
       rintro e w2 ⟨rfl,hg2⟩
       go_wp2_with fail
       go_ret
       exact ⟨by rw [HC.out];rfl,hg2⟩
     . have HC:Hid (chkG has addr 8=0):=by show chkG has addr 8=0;unfold chkG;rw [if_pos sz,el,if_pos ⟨o,g1,g2⟩]
       clear el sz
       go_enter Tryz.func73,Tryz.ntmps73
       go_wp2_with fail
       refine (hh.out _ _ (World.grownBy.refl _ _)).mono ?_
       rintro e w1 ⟨rfl,hg1⟩
       go_wp2_with fail
       refine (hh.out _ _ hg1).mono ?_
       rintro e w2 ⟨rfl,hg2⟩
       go_wp2_with fail
       go_ret
       exact ⟨by rw [HC.out];rfl,hg2⟩
 . have HC:Hid (chkG has addr 8=2):=by show chkG has addr 8=2;unfold chkG;rw [if_pos sz,if_neg (fun k=>o k.1)]
   have hw:IntKind.u64.wrap (addr+7)=addr+7-18446744073709551616:=kg
   have hl:addr+7-18446744073709551616<addr:=by omega
   clear o sz
   go_enter Tryz.func73,Tryz.ntmps73
   go_wp2_with fail
   go_ret
   exact ⟨by rw [HC.out];rfl,(World.grownBy.refl _ _)⟩
theorem checkG_arg (rb:Nat) (has:Int->Bool) (addr size:Int) (w:World) (hs: ¬ (size=1\/size=2\/size=4\/size=8)) :
 Calls Tryz.prog 73 #[.pointer (some ⟨rb,0,none⟩),.int .u64 addr,.int .i64 size] w fun e w'=>e=.returned (.int .i64 (chkG has addr size))/\w.grownBy w' none:=by
 have HC:Hid (chkG has addr size=1):=by show chkG has addr size=1;unfold chkG;rw [if_neg hs]
 have b1:(size==1)=false:=beq_eq_false_iff_ne.2 (by omega)
 have b2:(size==2)=false:=beq_eq_false_iff_ne.2 (by omega)
 have b4:(size==4)=false:=beq_eq_false_iff_ne.2 (by omega)
 have b8:(size==8)=false:=beq_eq_false_iff_ne.2 (by omega)
 clear hs
 go_enter Tryz.func73,Tryz.ntmps73
 go_wp2
 go_ret
 exact ⟨by rw [HC.out];rfl,World.grownBy.refl _ _⟩
theorem check_any (rb:Nat) (S:List Nat) (has:Int->Bool) (addr size:Int) (w:World) (h0:0<=addr) (h1:addr<18446744073709551616) (hk:HasOk w rb S has) :
 Calls Tryz.prog 73 #[.pointer (some ⟨rb,0,none⟩),.int .u64 addr,.int .i64 size] w fun e w'=>e=.returned (.int .i64 (chkG has addr size))/\w.grownBy w' none:=by
 by_cases hs:size=1\/size=2\/size=4\/size=8
 . rcases hs with rfl | rfl | rfl | rfl
   . exact checkG_1 rb S has addr w h0 h1 hk
   . exact checkG_2 rb S has addr w h0 h1 hk
   . exact checkG_4 rb S has addr w h0 h1 hk
   . exact checkG_8 rb S has addr w h0 h1 hk
 . exact checkG_arg rb has addr size w hs
def mset (M:Int->Int) (addr m x:Int):Int->Int:=fun t=>if addr<=t/\t<addr+m then x / 256 ^ (t-addr).toNat % 256 else M t
def ld (M:Int->Int) (addr:Int):Nat->Int
 | 0 => 0
 | i + 1 => ld M addr i + M (addr + i) * 256 ^ i
def IsRam (w:World) (B rb:Nat) (has:Int->Bool) (F:Int) (M:Int->Int) (n:Nat):Prop :=
 ∃ (mb:Nat) (S:List Nat) (pg:Int->Option Nat),B<=rb/\B<=mb/\HasOk w rb S has/\mb∉S /\
  w.cell? ⟨rb,0,none⟩=some (.int .i64 F)/\w.cell? ⟨rb,2,none⟩=some (.map (some mb))/\Mem w mb n pg /\
  (∀ k b,pg k=some b->B<=b/\b<w.heap.size/\b∉S/\b≠mb/\Page w b (fun i=>M (k*4096+i))) /\
  (∀ k k' b,pg k=some b->pg k'=some b->k=k')/\(∀ k,pg k=none-> ∀ i:Nat,i<4096->M (k*4096+i)=0)/\ ∀ t,0<=M t/\M t<256
theorem Page.of_block {w w':World} {b:Nat} {c:Nat->Int} (h:Page w b c) (hb:w'.heap[b]? =w.heap[b]?):Page w' b c:=by
 intro i hi
 obtain ⟨h1,h2⟩:=h i hi
 exact ⟨(World.cell?_of_block (a:=⟨b,i,none⟩) hb).trans h1,(World.frozen?_of_block (a:=⟨b,i,none⟩) hb).trans h2⟩
theorem IsRam.grown {w w':World} {B rb:Nat} {has:Int->Bool} {F:Int} {M:Int->Int} {n:Nat} (h:IsRam w B rb has F M n) (hg:w.grownBy w' none):IsRam w' B rb has F M n:=by
 obtain ⟨mb,S,pg,q1,q2,hk,q3,q4,q5,hm,hp,hi,hz,hb⟩:=h
 have hrb:=hk.2.1 rb hk.1
 refine ⟨mb,S,pg,q1,q2,hk.keep (fun s hs=>hg.block s (hk.2.1 s hs) (by simp)) hg.size,q3,?_,?_,hm.kept hg (by simp),?_,hi,hz,hb⟩
 . rw [World.cell?_of_block (w:=w) (a:=⟨rb,0,none⟩) (hg.block rb hrb (by simp))];exact q4
 . rw [World.cell?_of_block (w:=w) (a:=⟨rb,2,none⟩) (hg.block rb hrb (by simp))];exact q5
 . intro k b hkb
   obtain ⟨r1,r2,r3,r4,r5⟩:=hp k b hkb
   exact ⟨r1,nla r2 hg.size,r3,r4,r5.of_block (hg.block b r2 (by simp))⟩
theorem ld_le (M:Int->Int) (k:Int) (a:Nat): ∀ m,le (fun i=>M (k*4096+i)) a m=ld M (k*4096+a) m
 | 0 => rfl
 | m + 1 => by
  simp only [le,ld,ld_le M k a m]
  rw [show (k*4096+((a+m:Nat):Int))=k*4096+a+m by omega]
theorem ld_zero {M:Int->Int} {addr:Int}: ∀ {m:Nat},(∀ i:Nat,i<m->M (addr+i)=0)->ld M addr m=0
 | 0, _ => rfl
 | m + 1, h => by
  simp only [ld]
  rw [ld_zero (fun i hi=>h i (by omega)),h m (by omega)];simp
theorem read_any {w:World} {B rb:Nat} {has:Int->Bool} {F:Int} {M:Int->Int} {n:Nat} (h:IsRam w B rb has F M n) (k a m:Int) (k0: -9223372036854775808<=k) (k1:k<=9223372036854775807)
 (a0:0<=a) (m0:0<=m) (m8:m<=8) (am:a+m<=4096) :
 Calls Tryz.prog 76 #[.pointer (some ⟨rb,0,none⟩),.int .i64 k,.int .i64 a,.int .i64 m] w fun e w'=>e=.returned (.int .u64 (ld M (k*4096+a) m.toNat))/\w'=w:=by
 obtain ⟨mb,S,pg,q1,q2,hk,q3,q4,q5,hm,hp,hi,hz,hb⟩:=h
 cases hpk:pg k with
 | none =>
  refine (read_none rb mb n pg k a m w k0 k1 q5 hm hpk).mono ?_
  rintro e w' ⟨he,hw⟩
  refine ⟨?_,hw⟩
  rw [he,ld_zero]
  intro i hi'
  have:=hz k hpk (a.toNat+i) (by omega)
  rw [show k*4096+a+(i:Int)=k*4096+((a.toNat+i:Nat):Int) by omega];exact this
 | some b =>
  obtain ⟨r1,r2,r3,r4,r5⟩:=hp k b hpk
  refine (read_some rb mb n b pg (fun i=>M (k*4096+i)) k a m w k0 k1 q5 hm hpk (fun i=>hb _) (fun i hi'=>(r5 i hi').1) a0 m0 m8 am).mono ?_
  rintro e w' ⟨he,hw⟩
  refine ⟨?_,hw⟩
  rw [he,ld_le,show k*4096+((a.toNat:Nat):Int)=k*4096+a by omega]
theorem Page.congr {w:World} {b:Nat} {c c':Nat->Int} (h:Page w b c) (he: ∀ i,i<4096->c i=c' i):Page w b c':=by
 intro i hi;rw [<- he i hi];exact h i hi
theorem Mem.mono {w:World} {mb n n':Nat} {pg:Int->Option Nat} (h:Mem w mb n pg) (hn:n<=n'):Mem w mb n' pg:=by
 obtain ⟨D,hown,hD⟩:=h;exact ⟨D,hown.mono hn,hD⟩
theorem mset_in (M:Int->Int) (k x:Int) (a m i:Nat):mset M (k*4096+a) m x (k*4096+i)=cset (fun i=>M (k*4096+i)) a m x i:=by
 unfold mset cset
 by_cases c:a<=i/\i<a+m
 . rw [if_pos c,if_pos (by omega),show (k*4096+(i:Int)-(k*4096+(a:Int))).toNat=i-a by omega]
 . rw [if_neg c,if_neg (by omega)]
theorem mset_out (M:Int->Int) {k j x:Int} {a m i:Nat} (hj:j≠k) (am:a+m<=4096) (hi:i<4096):mset M (k*4096+a) m x (j*4096+i)=M (j*4096+i):=by
 unfold mset;rw [if_neg (by omega)]
theorem mset_byte {M:Int->Int} (hb: ∀ t,0<=M t/\M t<256) (addr m x t:Int):0<=mset M addr m x t/\mset M addr m x t<256:=by
 unfold mset;split
 . exact ⟨Int.emod_nonneg _ (by omega),Int.emod_lt_of_pos _ (by omega)⟩
 . exact hb t
theorem IsRam.hasOk {w:World} {B rb:Nat} {has:Int->Bool} {F:Int} {M:Int->Int} {n:Nat} (h:IsRam w B rb has F M n): ∃ S,HasOk w rb S has:=by
 obtain ⟨mb,S,pg,q1,q2,hk,_⟩:=h;exact ⟨S,hk⟩
theorem IsRam.byte {w:World} {B rb:Nat} {has:Int->Bool} {F:Int} {M:Int->Int} {n:Nat} (h:IsRam w B rb has F M n): ∀ t,0<=M t/\M t<256:=by
 obtain ⟨mb,S,pg,q1,q2,hk,q3,q4,q5,hm,hp,hi,hz,hb⟩:=h;exact hb
theorem div_pow_pow (x:Int) (hx:0<=x) (a b:Nat):x / 256 ^ a / 256 ^ b=x / 256 ^ (a+b):=by
 rw [Int.pow_add,Int.ediv_ediv_of_nonneg (Int.le_of_lt (Int.pow_pos (by omega)))]
theorem mset_two (M:Int->Int) (addr L size x:Int) (hx:0<=x) (l0:0<=L) (l1:L<=size):mset (mset M addr L x) (addr+L) (size-L) (x / 256 ^ L.toNat)=mset M addr size x:=by
 funext t
 unfold mset
 by_cases c1:addr+L<=t/\t<addr+L+(size-L)
 . rw [if_pos c1,if_pos (by omega),div_pow_pow x hx,show L.toNat+(t-(addr+L)).toNat=(t-addr).toNat by omega]
 . rw [if_neg c1]
   by_cases c2:addr<=t/\t<addr+L
   . rw [if_pos c2,if_pos (by omega)]
   . rw [if_neg c2,if_neg (by omega)]
theorem ld_bd {M:Int->Int} (hM: ∀ t,0<=M t/\M t<256) (addr:Int): ∀ n:Nat,0<=ld M addr n/\ld M addr n<256 ^ n
 | 0 => by simp [ld]
 | n + 1 => by
  have h:=ld_bd hM addr n
  have h2:=hM (addr+n)
  simp only [ld]
  have hp:(0:Int)<256 ^ n:=Int.pow_pos (by omega)
  have h3:0<=M (addr+n)*256 ^ n:=Int.mul_nonneg h2.1 (by omega)
  have h4:M (addr+n)*256 ^ n<=255*256 ^ n:=Int.mul_le_mul_of_nonneg_right (by omega) (by omega)
  rw [Int.pow_succ]
  omega
theorem ld_add (M:Int->Int) (addr:Int) (l:Nat): ∀ r:Nat,ld M addr (l+r)=ld M addr l+ld M (addr+l) r*256 ^ l
 | 0 => by simp [ld]
 | r + 1 => by
  rw [<- Nat.add_assoc]
  simp only [ld]
  rw [ld_add M addr l r,Int.pow_add,Int.add_mul,show addr+((l+r:Nat):Int)=addr+l+r by omega,<- Int.mul_assoc,Int.mul_right_comm (M _) _ _,Int.add_assoc]
theorem pow_le8 {m:Nat} (h:m<=8):(256:Int) ^ m<=18446744073709551616:=by
 rcases (show m=0\/m=1\/m=2\/m=3\/m=4\/m=5\/m=6\/m=7\/m=8 by omega) with rfl | rfl | rfl | rfl | rfl | rfl | rfl | rfl | rfl <;> decide
theorem or_part {X Y:Int} {l r:Nat} (x0:0<=X) (x1:X<256 ^ l) (y0:0<=Y) (y1:Y<256 ^ r) (h8:l+r<=8):bits .or .u64 X (IntKind.u64.wrap (Y*2 ^ (8*l)))=X+Y*256 ^ l:=by
 have hp:(0:Int)<256 ^ l:=Int.pow_pos (by omega)
 have h1:(Y+1)*256 ^ l<=256 ^ r*256 ^ l:=Int.mul_le_mul_of_nonneg_right (by omega) (by omega)
 rw [<- Int.pow_add,Nat.add_comm r l,Int.add_mul,Int.one_mul] at h1
 have h2:=pow_le8 h8
 have h3:0<=Y*256 ^ l:=Int.mul_nonneg y0 (by omega)
 rw [IntKind.wrap_u64,pow256,Int.emod_eq_of_lt h3 (by omega)]
 have h4:=or_at (8*l) X Y x0 (by rw [pow256];exact x1) y0 (by rw [pow256];omega)
 rw [pow256] at h4;exact h4
theorem clone_nil (w:World):Calls Tryz.prog 84 #[.slice none 0 0] w fun e w'=>e=.returned (.slice none 0 0)/\w'=w:=by
 have he: ∀ W:World,(binOp .eql 121 (.slice none 0 0) (.slice none 0 0)).run Tryz.prog W=.ok (.bool true) W:=fun W=>by kernel_rfl
 go_enter Tryz.func84,Tryz.ntmps84
 go_wp2
 go_ret
 exact ⟨rfl,rfl⟩
theorem new_walk (F:Int) (f0:1<=F) (f1:F<=1048576) (w:World) :
 Calls Tryz.prog 44 #[.int .i64 F,.slice none 0 0] w fun e w'=>e=.returned (.tuple #[.pointer (some ⟨w.heap.size+1,0,none⟩),.int .i64 0]) /\
  w'=(w.alloc (.map #[] 0)).alloc (.cells #[.int .i64 F,.slice none 0 0,.map (some w.heap.size)] 195):=by
 have hmm:= @run_makeMap Tryz.prog
 go_enter Tryz.func44,Tryz.ntmps44
 go_wp2
 refine wp_loop_rounds 1 ?_
 rw [rounds_succ]
 go_wp2_with (go_at_call 84;refine (clone_nil _).mono ?_;rintro e w' ⟨rfl,rfl⟩)
 go_ret2
 exact ⟨rfl,rfl⟩
theorem mod_step (x:Int) (hx:0<=x) (i:Nat):x % 256 ^ i+x / 256 ^ i % 256*256 ^ i=x % 256 ^ (i+1):=by
 obtain ⟨X,rfl⟩:=Int.eq_ofNat_of_zero_le hx
 have h:=Nat.mod_mul (x:=X) (a:=256 ^ i) (b:=256)
 have e: ∀ n:Nat,((256:Int) ^ n)=((256 ^ n:Nat):Int):=fun n=>by rw [Int.natCast_pow];rfl
 rw [Int.pow_succ,e,<- Int.natCast_emod,<- Int.natCast_ediv]
 rw [show (256:Int)=((256:Nat):Int) from rfl,<- Int.natCast_emod,<- Int.natCast_mul,<- Int.natCast_mul,<- Int.natCast_add,<- Int.natCast_emod,h,Nat.mul_comm]
theorem ld_mset_low (M:Int->Int) (a m x:Int) (hx:0<=x): ∀ i:Nat,(i:Int)<=m->ld (mset M a m x) a i=x % 256 ^ i
 | 0, _ => by simp [ld]
 | i + 1, h => by
  simp only [ld]
  rw [ld_mset_low M a m x hx i (by omega)]
  have:mset M a m x (a+i)=x / 256 ^ i % 256:=by unfold mset;rw [if_pos (by omega),show (a+(i:Int)-a).toNat=i by omega]
  rw [this,mod_step x hx i]
theorem ld_mset8 (M:Int->Int) (a x:Int) (h0:0<=x) (h1:x<18446744073709551616):ld (mset M a 8 x) a (8:Int).toNat=x:=by
 rw [show (8:Int).toNat=8 from rfl,ld_mset_low M a 8 x h0 8 (by omega)]
 exact Int.emod_eq_of_lt h0 (by
  have:(256:Int) ^ 8=18446744073709551616:=by decide
  omega)
theorem ld_mset_apart (M:Int->Int) {a m x b:Int}: ∀ {n:Nat},(b+n<=a\/a+m<=b)->ld (mset M a m x) b n=ld M b n
 | 0, _ => rfl
 | n + 1, h => by
  simp only [ld]
  rw [ld_mset_apart M (n:=n) (by omega)]
  have:mset M a m x (b+n)=M (b+n):=by unfold mset;rw [if_neg (by omega)]
  rw [this]
theorem Mem.drop {w:World} {mb n:Nat} {pg:Int->Option Nat} (h:Mem w mb n pg) {k:Int} (h0: -9223372036854775808<=k) (h1:k<=9223372036854775807) (ty:TypeId) :
 ∃ w',(Builtin.delete_ #[193,3] ty #[.map (some mb),.int .i64 k]).run Tryz.prog w=.ok (.tuple #[]) w'/\Mem w' mb n (put pg k none)/\w.grownBy w' (some mb):=by
 obtain ⟨D,hown,hD⟩:=h
 obtain ⟨w',hrun,hown',ht⟩:=hown.drop keyLaw Tryz.underlying193 (keyOf_int_mk Tryz.underlying3 (wf64 h0 h1)) ty
 refine ⟨w',hrun,⟨_,hown',?_⟩,ht.grown⟩
 intro j
 unfold put
 by_cases c:j=k
 . subst c;rw [if_pos rfl];exact atKey_del_same _
 . rw [if_neg c,atKey_del_other (by intro e;cases e;exact c rfl)];exact hD j
def mzero (M:Int->Int) (k:Int):Int->Int:=fun t=>if k*4096<=t/\t<k*4096+4096 then 0 else M t
structure Kept (K:Nat->Prop) (w w':World):Prop where
 os:w'.os=w.os
 tape:w'.tape=w.tape
 output:w'.output=w.output
 size:w.heap.size<=w'.heap.size
 block: ∀ k,K k->w'.heap[k]? =w.heap[k]?
theorem Kept.refl (K:Nat->Prop) (w:World):Kept K w w:=⟨rfl,rfl,rfl,Nat.le_refl _,fun _ _=>rfl⟩
theorem Kept.trans {K:Nat->Prop} {a b c:World} (h:Kept K a b) (k:Kept K b c):Kept K a c:=⟨k.os.trans h.os,k.tape.trans h.tape,k.output.trans h.output,Nat.le_trans h.size k.size,fun j hj=>(k.block j hj).trans (h.block j hj)⟩
theorem Kept.sub {K K':Nat->Prop} {a b:World} (h:Kept K a b) (hs: ∀ j,K' j->K j):Kept K' a b:=⟨h.os,h.tape,h.output,h.size,fun j hj=>h.block j (hs j hj)⟩
theorem kept_of_below {K:Nat->Prop} {a b:World} {B:Nat} (h:Below B a b) (hs: ∀ j,K j->j<B):Kept K a b:=⟨h.os,h.tape,h.output,h.size,fun j hj=>h.block j (hs j hj)⟩
theorem kept_of_grown0 {K:Nat->Prop} {w w':World} (hg:w.grownBy w' none) (hK: ∀ j,K j->j<w.heap.size):Kept K w w':=⟨hg.os,hg.tape,hg.output,hg.size,fun j hj=>hg.block j (hK j hj) (by simp)⟩
def IsRamK (w:World) (K:Nat->Prop) (rb:Nat) (has:Int->Bool) (F:Int) (M:Int->Int) (n:Nat):Prop :=
 ∃ (mb:Nat) (S:List Nat) (pg:Int->Option Nat),(0<=rb/\0<=mb/\HasOk w rb S has/\mb∉S /\
  w.cell? ⟨rb,0,none⟩=some (.int .i64 F)/\w.cell? ⟨rb,2,none⟩=some (.map (some mb))/\Mem w mb n pg /\
  (∀ k b,pg k=some b->0<=b/\b<w.heap.size/\b∉S/\b≠mb/\Page w b (fun i=>M (k*4096+i))) /\
  (∀ k k' b,pg k=some b->pg k'=some b->k=k')/\(∀ k,pg k=none-> ∀ i:Nat,i<4096->M (k*4096+i)=0)/\ ∀ t,0<=M t/\M t<256) /\
  ¬ K mb/\(∀ k b,pg k=some b-> ¬ K b)/\ ∀ j,K j->j<w.heap.size
section
variable {w:World} {K:Nat->Prop} {rb n:Nat} {has:Int->Bool} {F:Int} {M:Int->Int}
theorem IsRamK.ram (h:IsRamK w K rb has F M n):IsRam w 0 rb has F M n:=by
 obtain ⟨mb,S,pg,h,_⟩:=h;exact ⟨mb,S,pg,h⟩
theorem IsRamK.hasOk (h:IsRamK w K rb has F M n): ∃ S,HasOk w rb S has:=h.ram.hasOk
theorem IsRamK.dom (h:IsRamK w K rb has F M n): ∀ j,K j->j<w.heap.size:=by
 obtain ⟨mb,S,pg,_,_,_,h⟩:=h;exact h
theorem IsRamK.mono {w:World} {K:Nat->Prop} {rb n m:Nat} {has:Int->Bool} {F:Int} {M:Int->Int} (h:IsRamK w K rb has F M n) (hn:n<=m):IsRamK w K rb has F M m:=by
 obtain ⟨mb,S,pg,⟨q1,q2,hk,q3,q4,q5,hm,hr⟩,h1,h2,h3⟩:=h
 exact ⟨mb,S,pg,⟨q1,q2,hk,q3,q4,q5,hm.mono hn,hr⟩,h1,h2,h3⟩
theorem IsRamK.more {w w':World} {K K':Nat->Prop} {rb n:Nat} {has:Int->Bool} {F:Int} {M:Int->Int} (h:IsRamK w K rb has F M n) (hg:w.grownBy w' none) (hK: ∀ j,K' j->K j\/(w.heap.size<=j/\j<w'.heap.size)):IsRamK w' K' rb has F M n:=by
 obtain ⟨mb,S,pg,⟨q1,q2,hk,q3,q4,q5,hm,hp,hi,hz,hb⟩,h1,h2,h3⟩:=h
 have hrb:=hk.2.1 rb hk.1
 have hsz:=hg.size
 have hmb:=hm.lt
 refine ⟨mb,S,pg,⟨q1,q2,hk.keep (fun s hs=>hg.block s (hk.2.1 s hs) (by simp)) hg.size,q3,?_,?_,hm.kept hg (by simp),?_,hi,hz,hb⟩,?_,?_,?_⟩
 . rw [World.cell?_of_block (w:=w) (a:=⟨rb,0,none⟩) (hg.block rb hrb (by simp))];exact q4
 . rw [World.cell?_of_block (w:=w) (a:=⟨rb,2,none⟩) (hg.block rb hrb (by simp))];exact q5
 . intro k b e
   obtain ⟨r1,r2,r3,r4,r5⟩:=hp k b e
   exact ⟨r1,nla r2 hg.size,r3,r4,r5.of_block (hg.block b r2 (by simp))⟩
 . intro e;rcases hK _ e with e | e
   . exact h1 e
   . omega
 . intro k b e hb';rcases hK _ hb' with e' | e'
   . exact h2 k b e e'
   . have:=(hp k b e).2.1;omega
 . intro j hj;rcases hK j hj with e | e
   . exact nla (h3 j e) hg.size
   . exact e.2
theorem IsRamK.grown {w w':World} {K:Nat->Prop} {rb n:Nat} {has:Int->Bool} {F:Int} {M:Int->Int} (h:IsRamK w K rb has F M n) (hg:w.grownBy w' none):IsRamK w' K rb has F M n:=h.more hg (fun j hj=>Or.inl hj)
theorem IsRamK.byte (h:IsRamK w K rb has F M n): ∀ t,0<=M t/\M t<256:=h.ram.byte
theorem write_K {w:World} {K:Nat->Prop} {rb:Nat} {has:Int->Bool} {F:Int} {M:Int->Int} {n:Nat} (h:IsRamK w K rb has F M n) (hn:n<maxLen) (k a m x:Int) (k0: -9223372036854775808<=k) (k1:k<=9223372036854775807)
 (a0:0<=a) (m0:0<=m) (m8:m<=8) (am:a+m<=4096) (x0:0<=x) (x1:x<18446744073709551616) :
 Calls Tryz.prog 75 #[.pointer (some ⟨rb,0,none⟩),.int .i64 k,.int .i64 a,.int .i64 m,.int .u64 x] w fun e w'=>e=.returned (.tuple #[]) /\
  IsRamK w' K rb has F (mset M (k*4096+a) m x) (n+1)/\Kept K w w':=by
 obtain ⟨mb,S,pg,⟨q1,q2,hk,q3,q4,q5,hm,hp,hi,hz,hb⟩,hK1,hK2,hK3⟩:=h
 have hrb:=hk.2.1 rb hk.1
 have ea:k*4096+a=k*4096+((a.toNat:Nat):Int):=by omega
 have em:m=((m.toNat:Nat):Int):=by omega
 have hin: ∀ i:Nat,mset M (k*4096+a) m x (k*4096+i)=cset (fun i=>M (k*4096+i)) a.toNat m.toNat x i:=by
  intro i;rw [ea];conv=>lhs;rw [em]
  exact mset_in M k x a.toNat m.toNat i
 have hout: ∀ (j:Int) (i:Nat),j≠k->i<4096->mset M (k*4096+a) m x (j*4096+i)=M (j*4096+i):=by
  intro j i hj hi';rw [ea];conv=>lhs;rw [em]
  exact mset_out M hj (by omega) hi'
 cases hpk:pg k with
 | none =>
  refine (write_none rb mb n pg k a m x w k0 k1 q5 hrb hm hn hpk a0 m0 m8 am x0 x1).mono ?_
  rintro e w' ⟨he,hm',hpage,hg⟩
  have hne: ∀ s,s∈S->some s≠some mb:=fun s hs e=>by cases e;exact q3 hs
  have hnerb:=hne rb hk.1
  have hput: ∀ k' b,put pg k (some w.heap.size) k'=some b-> ¬ K b:=by
   intro k' b hb' hKb
   unfold put at hb'
   by_cases c:k'=k
   . rw [if_pos c] at hb';cases hb';exact absurd (hK3 _ hKb) (by omega)
   . rw [if_neg c] at hb';exact hK2 k' b hb' hKb
  refine ⟨he,⟨mb,S,put pg k (some w.heap.size),⟨q1,q2,hk.keep (fun s hs=>hg.block s (hk.2.1 s hs) (hne s hs)) hg.size,q3,?_,?_,hm',?_,?_,?_,mset_byte hb _ _ _⟩,hK1,hput,fun j hj=>nla (hK3 j hj) hg.size⟩,⟨hg.os,hg.tape,hg.output,hg.size,fun j hj=>hg.block j (hK3 j hj) (by intro e;cases e;exact hK1 hj)⟩⟩
  . rw [World.cell?_of_block (w:=w) (a:=⟨rb,0,none⟩) (hg.block rb hrb hnerb)];exact q4
  . rw [World.cell?_of_block (w:=w) (a:=⟨rb,2,none⟩) (hg.block rb hrb hnerb)];exact q5
  . intro j b hjb
    unfold put at hjb
    by_cases c:j=k
    . rw [if_pos c] at hjb
      cases hjb
      have hlt:=hm'.lt
      refine ⟨by omega,?_,fun hs=>by have:=hk.2.1 _ hs;omega,fun e=>by have:=hm.lt;omega,?_⟩
      . have hcell:=(hpage 0 (by omega)).1
        rcases Nat.lt_or_ge w.heap.size w'.heap.size with d | d
        . exact d
        . exfalso
          have:w'.heap[w.heap.size]? =none:=Array.getElem?_eq_none d
          simp [World.cell?,this] at hcell
      . rw [c]
        refine hpage.congr fun i hi'=> ?_
        rw [hin]
        unfold cset
        by_cases c2:a.toNat<=i/\i<a.toNat+m.toNat
        . rw [if_pos c2,if_pos c2]
        . rw [if_neg c2,if_neg c2];exact (hz k hpk i hi').symm
    . rw [if_neg c] at hjb
      obtain ⟨r1,r2,r3,r4,r5⟩:=hp j b hjb
      exact ⟨r1,nla r2 hg.size,r3,r4,(r5.of_block (hg.block b r2 (by intro e;cases e;exact r4 rfl))).congr fun i hi'=>(hout j i c hi').symm⟩
  . intro j j' b hjb hjb'
    unfold put at hjb hjb'
    by_cases c:j=k
    . by_cases c':j'=k
      . rw [c,c']
      . rw [if_pos c] at hjb;rw [if_neg c'] at hjb'
        cases hjb
        have:=(hp j' _ hjb').2.1;omega
    . by_cases c':j'=k
      . rw [if_neg c] at hjb;rw [if_pos c'] at hjb'
        cases hjb'
        have:=(hp j _ hjb).2.1;omega
      . rw [if_neg c] at hjb;rw [if_neg c'] at hjb'
        exact hi j j' b hjb hjb'
  . intro j hj i hi'
    unfold put at hj
    by_cases c:j=k
    . rw [if_pos c] at hj;cases hj
    . rw [if_neg c] at hj
      rw [hout j i c hi'];exact hz j hj i hi'
 | some b =>
  obtain ⟨r1,r2,r3,r4,r5⟩:=hp k b hpk
  refine (write_some rb mb n b pg (fun i=>M (k*4096+i)) k a m x w k0 k1 q5 hm hpk r5 a0 m0 m8 am x0 x1).mono ?_
  rintro e w' ⟨he,hpage,hg⟩
  have hne: ∀ s,s∈S->some s≠some b:=fun s hs e=>by cases e;exact r3 hs
  have hnerb:=hne rb hk.1
  refine ⟨he,⟨mb,S,pg,⟨q1,q2,hk.keep (fun s hs=>hg.block s (hk.2.1 s hs) (hne s hs)) hg.size,q3,?_,?_,(hm.kept hg (by intro e;cases e;exact r4 rfl)).mono (by omega),?_,hi,?_,mset_byte hb _ _ _⟩,hK1,hK2,fun j hj=>nla (hK3 j hj) hg.size⟩,⟨hg.os,hg.tape,hg.output,hg.size,fun j hj=>hg.block j (hK3 j hj) (by intro e;cases e;exact hK2 k b hpk hj)⟩⟩
  . rw [World.cell?_of_block (w:=w) (a:=⟨rb,0,none⟩) (hg.block rb hrb hnerb)];exact q4
  . rw [World.cell?_of_block (w:=w) (a:=⟨rb,2,none⟩) (hg.block rb hrb hnerb)];exact q5
  . intro j b' hjb
    by_cases c:j=k
    . subst c
      rw [hpk] at hjb;cases hjb
      exact ⟨r1,nla r2 hg.size,r3,r4,hpage.congr fun i hi'=>(hin i).symm⟩
    . obtain ⟨t1,t2,t3,t4,t5⟩:=hp j b' hjb
      have hbb:b'≠b:=fun e=>c (hi j k b' hjb (by rw [e];exact hpk))
      exact ⟨t1,nla t2 hg.size,t3,t4,(t5.of_block (hg.block b' t2 (by intro e;cases e;exact hbb rfl))).congr fun i hi'=>(hout j i c hi').symm⟩
  . intro j hj i hi'
    have c:j≠k:=fun e=>by rw [e,hpk] at hj;cases hj
    rw [hout j i c hi'];exact hz j hj i hi'
theorem store_K {w:World} {K':Nat->Prop} {rb:Nat} {has:Int->Bool} {F:Int} {M:Int->Int} {n:Nat} (h:IsRamK w K' rb has F M n) (hn:n+1<maxLen) (addr size x:Int) (h0:0<=addr) (h1:addr<18446744073709551616) (hz:chkG has addr size=0)
 (x0:0<=x) (x1:x<18446744073709551616) :
 Calls Tryz.prog 39 #[.pointer (some ⟨rb,0,none⟩),.int .u64 addr,.int .i64 size,.int .u64 x] w fun e w'=>e=.returned (.int .i64 0)/\IsRamK w' K' rb has F (mset M addr size x) (n+2)/\Kept K' w w':=by
 obtain ⟨S,hk⟩:=h.hasOk
 have hsz:size=1\/size=2\/size=4\/size=8:=by
  unfold chkG at hz
  by_cases c:size=1\/size=2\/size=4\/size=8
  . exact c
  . rw [if_neg c] at hz;omega
 have hfit:addr+size<=18446744073709551616:=by
  unfold chkG at hz
  rw [if_pos hsz] at hz
  by_cases c:addr+size<=18446744073709551616/\has (addr / 4096)=true/\has ((addr+size-1) / 4096)=true
  . exact c.1
  . rw [if_neg c] at hz;omega
 have ck:Hid (∀ u:Unit,Calls Tryz.prog 73 #[.pointer (some ⟨rb,0,none⟩),.int .u64 addr,.int .i64 size] w fun e w'=>e=.returned (.int .i64 0)/\w.grownBy w' none):=by
  intro _;rw [<- hz];exact check_any rb S has addr size w h0 h1 hk
 obtain ⟨K,hK⟩: ∃ K:Int,addr / 4096=K:=⟨_,rfl⟩
 obtain ⟨A,hA⟩: ∃ A:Int,addr % 4096=A:=⟨_,rfl⟩
 have hKA:addr=K*4096+A:=by omega
 have A0:0<=A:=by omega
 have A1:A<4096:=by omega
 have K0:0<=K:=by omega
 have K1:K<4503599627370496:=by omega
 have s0:1<=size:=by omega
 have s8:size<=8:=by omega
 have HI:Hid (IsRamK w K' rb has F M n):=h
 by_cases c:size<=4096-A
 . have sp:Hid (∀ w:World,Calls Tryz.prog 74 #[.int .u64 addr,.int .i64 size] w fun e w'=>e=.returned (.tuple #[.int .i64 K,.int .i64 A,.int .i64 size])/\w'=w):=by
    intro w;rw [<- hK,<- hA];exact split_in addr size h0 h1 (by omega) s8 (by omega) w
   have wr:Hid (∀ w1:World,IsRamK w1 K' rb has F M n->Calls Tryz.prog 75 #[.pointer (some ⟨rb,0,none⟩),.int .i64 K,.int .i64 A,.int .i64 size,.int .u64 x] w1 fun e w'=>e=.returned (.tuple #[]) /\
    IsRamK w' K' rb has F (mset M addr size x) (n+1)/\Kept K' w1 w'):=by
    intro w1 hI
    have:=write_K hI (by omega) K A size x (by omega) (by omega) A0 (by omega) s8 (by omega) x0 x1
    rw [<- hKA] at this;exact this
   clear h hk hz hsz hfit hK hA hKA A0 A1 K0 K1 s0 s8 c
   go_enter Tryz.func39,Tryz.ntmps39
   go_wp2_with fail
   refine (ck.out ()).mono ?_
   rintro e w1 ⟨rfl,hg1⟩
   go_wp2_with fail
   refine (sp.out _).mono ?_
   rintro e w' ⟨rfl,rfl⟩
   go_wp2_with fail
   refine (wr.out _ (HI.out.grown hg1)).mono ?_
   rintro e w2 ⟨rfl,hI2,hb2⟩
   go_wp2_with fail
   go_ret
   exact ⟨rfl,hI2.mono (by omega),(kept_of_grown0 hg1 HI.out.dom).trans hb2⟩
 . obtain ⟨L,hL⟩: ∃ L:Int,4096-A=L:=⟨_,rfl⟩
   obtain ⟨y,hy⟩: ∃ y:Int,x / 2 ^ (8*L).toNat=y:=⟨_,rfl⟩
   obtain ⟨R,hR⟩: ∃ R:Int,size-L=R:=⟨_,rfl⟩
   have l0:1<=L:=by omega
   have l1:L<size:=by omega
   have l8:L<=8:=by omega
   have r0:0<=R:=by omega
   have r8:R<=8:=by omega
   have hyx:y=x / 256 ^ L.toNat:=by rw [<- hy,show (8*L).toNat=8*L.toNat by omega,pow256]
   have y0:0<=y:=by rw [hyx];exact Int.ediv_nonneg x0 (Int.le_of_lt (Int.pow_pos (by omega)))
   have y1:y<18446744073709551616:=by rw [hyx];exact Int.lt_of_le_of_lt (Int.ediv_le_self _ x0) x1
   have sp:Hid (∀ w:World,Calls Tryz.prog 74 #[.int .u64 addr,.int .i64 size] w fun e w'=>e=.returned (.tuple #[.int .i64 K,.int .i64 A,.int .i64 L])/\w'=w):=by
    intro w;rw [<- hL,<- hK,<- hA];exact split_over addr size h0 h1 (by omega) s8 (by omega) w
   have wr:Hid (∀ w1:World,IsRamK w1 K' rb has F M n->Calls Tryz.prog 75 #[.pointer (some ⟨rb,0,none⟩),.int .i64 K,.int .i64 A,.int .i64 L,.int .u64 x] w1 fun e w'=>e=.returned (.tuple #[]) /\
    IsRamK w' K' rb has F (mset M addr L x) (n+1)/\Kept K' w1 w'):=by
    intro w1 hI
    have:=write_K hI (by omega) K A L x (by omega) (by omega) A0 (by omega) (by omega) (by omega) x0 x1
    rw [<- hKA] at this;exact this
   have wr2:Hid (∀ w1:World,IsRamK w1 K' rb has F (mset M addr L x) (n+1)->Calls Tryz.prog 75 #[.pointer (some ⟨rb,0,none⟩),.int .i64 (K+1),.int .i64 0,.int .i64 R,.int .u64 y] w1 fun e w'=>e=.returned (.tuple #[]) /\
    IsRamK w' K' rb has F (mset M addr size x) (n+2)/\Kept K' w1 w'):=by
    intro w1 hI
    have:=write_K hI (by omega) (K+1) 0 R y (by omega) (by omega) (by omega) (by omega) (by omega) (by omega) y0 y1
    rw [show (K+1)*4096+0=addr+L by omega,<- hR,hyx,mset_two M addr L size x x0 (by omega) (by omega),hR,<- hyx] at this
    exact this
   clear h hk hz hsz hfit hK hA hKA A0 A1 s8 c hL hyx y0 y1
   go_enter Tryz.func39,Tryz.ntmps39
   go_wp2_with fail
   refine (ck.out ()).mono ?_
   rintro e w1 ⟨rfl,hg1⟩
   go_wp2_with fail
   refine (sp.out _).mono ?_
   rintro e w' ⟨rfl,rfl⟩
   go_wp2_with fail
   refine (wr.out _ (HI.out.grown hg1)).mono ?_
   rintro e w2 ⟨rfl,hI2,hb2⟩
   have HI2:Hid (IsRamK w2 K' rb has F (mset M addr L x) (n+1)):=hI2
   clear hI2
   go_wp2_with fail
   refine (wr2.out _ HI2.out).mono ?_
   rintro e w3 ⟨rfl,hI3,hb3⟩
   go_wp2_with fail
   go_ret
   exact ⟨rfl,hI3,((kept_of_grown0 hg1 HI.out.dom).trans hb2).trans hb3⟩
theorem load_okG {w:World} {B rb:Nat} {has:Int->Bool} {F:Int} {M:Int->Int} {n:Nat} (h:IsRam w B rb has F M n) (addr size v:Int) (h0:0<=addr) (h1:addr<18446744073709551616) (hz:chkG has addr size=0)
 (hv:ld M addr size.toNat=v) :
 Calls Tryz.prog 40 #[.pointer (some ⟨rb,0,none⟩),.int .u64 addr,.int .i64 size] w fun e w'=>e=.returned (.tuple #[.int .u64 v,.int .i64 0])/\w.grownBy w' none:=by
 obtain ⟨S,hk⟩:=h.hasOk
 have hsz:size=1\/size=2\/size=4\/size=8:=by
  unfold chkG at hz
  by_cases c:size=1\/size=2\/size=4\/size=8
  . exact c
  . rw [if_neg c] at hz;omega
 have hfit:addr+size<=18446744073709551616:=by
  unfold chkG at hz
  rw [if_pos hsz] at hz
  by_cases c:addr+size<=18446744073709551616/\has (addr / 4096)=true/\has ((addr+size-1) / 4096)=true
  . exact c.1
  . rw [if_neg c] at hz;omega
 have ck:Hid (∀ u:Unit,Calls Tryz.prog 73 #[.pointer (some ⟨rb,0,none⟩),.int .u64 addr,.int .i64 size] w fun e w'=>e=.returned (.int .i64 0)/\w.grownBy w' none):=by
  intro _;rw [<- hz];exact check_any rb S has addr size w h0 h1 hk
 obtain ⟨K,hK⟩: ∃ K:Int,addr / 4096=K:=⟨_,rfl⟩
 obtain ⟨A,hA⟩: ∃ A:Int,addr % 4096=A:=⟨_,rfl⟩
 have hKA:addr=K*4096+A:=by omega
 have A0:0<=A:=by omega
 have A1:A<4096:=by omega
 have K0:0<=K:=by omega
 have K1:K<4503599627370496:=by omega
 have s0:1<=size:=by omega
 have s8:size<=8:=by omega
 have HI:Hid (IsRam w B rb has F M n):=h
 by_cases c:size<=4096-A
 . have sp:Hid (∀ w:World,Calls Tryz.prog 74 #[.int .u64 addr,.int .i64 size] w fun e w'=>e=.returned (.tuple #[.int .i64 K,.int .i64 A,.int .i64 size])/\w'=w):=by
    intro w;rw [<- hK,<- hA];exact split_in addr size h0 h1 (by omega) s8 (by omega) w
   have rd:Hid (∀ w1:World,IsRam w1 B rb has F M n->Calls Tryz.prog 76 #[.pointer (some ⟨rb,0,none⟩),.int .i64 K,.int .i64 A,.int .i64 size] w1 fun e w'=>e=.returned (.int .u64 v)/\w'=w1):=by
    intro w1 hI
    have:=read_any hI K A size (by omega) (by omega) A0 (by omega) s8 (by omega)
    rw [<- hKA,hv] at this;exact this
   clear h hk hz hsz hfit hK hA hKA A0 A1 K0 K1 s0 s8 c hv
   go_enter Tryz.func40,Tryz.ntmps40
   go_wp2_with fail
   refine (ck.out ()).mono ?_
   rintro e w1 ⟨rfl,hg1⟩
   go_wp2_with fail
   refine (sp.out _).mono ?_
   rintro e w' ⟨rfl,rfl⟩
   go_wp2_with fail
   refine (rd.out _ (HI.out.grown hg1)).mono ?_
   rintro e w' ⟨rfl,rfl⟩
   go_wp2_with fail
   go_ret2
   exact ⟨rfl,hg1⟩
 . obtain ⟨L,hL⟩: ∃ L:Int,4096-A=L:=⟨_,rfl⟩
   obtain ⟨R,hR⟩: ∃ R:Int,size-L=R:=⟨_,rfl⟩
   have l0:1<=L:=by omega
   have l1:L<size:=by omega
   have l8:L<=8:=by omega
   have r0:0<=R:=by omega
   have r8:R<=8:=by omega
   obtain ⟨X,hX⟩: ∃ X:Int,ld M addr L.toNat=X:=⟨_,rfl⟩
   obtain ⟨Y,hY⟩: ∃ Y:Int,ld M (addr+L) R.toNat=Y:=⟨_,rfl⟩
   have sp:Hid (∀ w:World,Calls Tryz.prog 74 #[.int .u64 addr,.int .i64 size] w fun e w'=>e=.returned (.tuple #[.int .i64 K,.int .i64 A,.int .i64 L])/\w'=w):=by
    intro w;rw [<- hL,<- hK,<- hA];exact split_over addr size h0 h1 (by omega) s8 (by omega) w
   have rd:Hid (∀ w1:World,IsRam w1 B rb has F M n->Calls Tryz.prog 76 #[.pointer (some ⟨rb,0,none⟩),.int .i64 K,.int .i64 A,.int .i64 L] w1 fun e w'=>e=.returned (.int .u64 X)/\w'=w1):=by
    intro w1 hI
    have:=read_any hI K A L (by omega) (by omega) A0 (by omega) (by omega) (by omega)
    rw [<- hKA,hX] at this;exact this
   have rd2:Hid (∀ w1:World,IsRam w1 B rb has F M n->Calls Tryz.prog 76 #[.pointer (some ⟨rb,0,none⟩),.int .i64 (K+1),.int .i64 0,.int .i64 R] w1 fun e w'=>e=.returned (.int .u64 Y)/\w'=w1):=by
    intro w1 hI
    have:=read_any hI (K+1) 0 R (by omega) (by omega) (by omega) (by omega) (by omega) (by omega)
    rw [show (K+1)*4096+0=addr+L by omega,hY] at this;exact this
   have hX':=ld_bd h.byte addr L.toNat
   have hY':=ld_bd h.byte (addr+L) R.toNat
   rw [hX] at hX';rw [hY] at hY'
   have hor:bits .or .u64 X (IntKind.u64.wrap (Y*2 ^ (8*L).toNat))=v:=by
    rw [show (8*L).toNat=8*L.toNat by omega,or_part hX'.1 hX'.2 hY'.1 hY'.2 (by omega),<- hX,<- hY,<- hv,show size.toNat=L.toNat+R.toNat by omega,ld_add,show addr+((L.toNat:Nat):Int)=addr+L by omega]
   clear h hk hz hsz hfit hK hA hKA A0 A1 s8 c hL hv hX hY hX' hY'
   go_enter Tryz.func40,Tryz.ntmps40
   go_wp2_with fail
   refine (ck.out ()).mono ?_
   rintro e w1 ⟨rfl,hg1⟩
   go_wp2_with fail
   refine (sp.out _).mono ?_
   rintro e w' ⟨rfl,rfl⟩
   go_wp2_with fail
   refine (rd.out _ (HI.out.grown hg1)).mono ?_
   rintro e w' ⟨rfl,rfl⟩
   go_wp2_with fail
   refine (rd2.out _ (HI.out.grown hg1)).mono ?_
   rintro e w' ⟨rfl,rfl⟩
   go_wp2_with fail
   go_ret2
   exact ⟨rfl,hg1⟩
def RamX (w:World) (K:Nat->Prop) (rb:Nat) (has:Int->Bool) (F:Int) (M:Int->Int) (n:Nat):Prop:=IsRamK w K rb has F M n/\ ∃ S,HasOk w rb S has/\ ∀ s,s∈S->K s
def RamS (w:World) (K:Nat->Prop) (S:List Nat) (rb:Nat) (has:Int->Bool) (F:Int) (M:Int->Int) (n:Nat):Prop :=
 ∃ (mb:Nat) (pg:Int->Option Nat),HasOk w rb S has/\w.cell? ⟨rb,0,none⟩=some (.int .i64 F)/\w.cell? ⟨rb,2,none⟩=some (.map (some mb))/\Mem w mb n pg /\
  (∀ k b,pg k=some b->b<w.heap.size/\b≠mb/\Page w b (fun i=>M (k*4096+i))) /\
  (∀ k k' b,pg k=some b->pg k'=some b->k=k')/\(∀ k,pg k=none-> ∀ i:Nat,i<4096->M (k*4096+i)=0)/\(∀ t,0<=M t/\M t<256)/\ ¬ K mb/\(∀ k b,pg k=some b-> ¬ K b)
theorem IsRamK.toS {w:World} {K:Nat->Prop} {S:List Nat} {rb n:Nat} {has:Int->Bool} {F:Int} {M:Int->Int} (h:IsRamK w K rb has F M n) (hS:HasOk w rb S has):RamS w K S rb has F M n:=by
 obtain ⟨mb,S',pg,⟨q1,q2,hk,q3,q4,q5,hm,hp,hi,hz,hb⟩,h1,h2,h3⟩:=h
 exact ⟨mb,pg,hS,q4,q5,hm,fun k b e=>⟨(hp k b e).2.1,(hp k b e).2.2.2.1,(hp k b e).2.2.2.2⟩,hi,hz,hb,h1,h2⟩
theorem RamS.poke {w w':World} {K:Nat->Prop} {S:List Nat} {rb n:Nat} {has:Int->Bool} {F:Int} {M:Int->Int} {r:Option Nat} (h:RamS w K S rb has F M n) (hg:w.grownBy w' r) (hr: ∀ f,r=some f->K f/\f∉S):RamS w' K S rb has F M n:=by
 obtain ⟨mb,pg,hk,q4,q5,hm,hp,hi,hz,hb,h1,h2⟩:=h
 have hS: ∀ s,s∈S->some s≠r:=fun s hs e=>(hr s e.symm).2 hs
 have hrb:=hk.2.1 rb hk.1
 refine ⟨mb,pg,hk.keep (fun s hs=>hg.block s (hk.2.1 s hs) (hS s hs)) hg.size,?_,?_,hm.kept hg (fun e=>h1 (hr mb e.symm).1),?_,hi,hz,hb,h1,h2⟩
 . rw [World.cell?_of_block (w:=w) (a:=⟨rb,0,none⟩) (hg.block rb hrb (hS rb hk.1))];exact q4
 . rw [World.cell?_of_block (w:=w) (a:=⟨rb,2,none⟩) (hg.block rb hrb (hS rb hk.1))];exact q5
 . intro k b e
   obtain ⟨r2,r4,r5⟩:=hp k b e
   exact ⟨nla r2 hg.size,r4,r5.of_block (hg.block b r2 (fun e'=>h2 k b e (hr b e'.symm).1))⟩
theorem RamS.back {w:World} {K K0:Nat->Prop} {S:List Nat} {rb n:Nat} {has:Int->Bool} {F:Int} {M:Int->Int} (h:RamS w K S rb has F M n) (h0: ∀ j,K0 j->K j) (hS: ∀ s,s∈S->K0 s) (hd: ∀ j,K0 j->j<w.heap.size):RamX w K0 rb has F M n:=by
 obtain ⟨mb,pg,hk,q4,q5,hm,hp,hi,hz,hb,h1,h2⟩:=h
 exact ⟨⟨mb,S,pg,⟨Nat.zero_le _,Nat.zero_le _,hk,fun e=>h1 (h0 _ (hS _ e)),q4,q5,hm,fun k b e=>⟨Nat.zero_le _,(hp k b e).1,fun e'=>h2 k b e (h0 _ (hS _ e')),(hp k b e).2⟩,hi,hz,hb⟩,fun e=>h1 (h0 _ e),fun k b e e'=>h2 k b e (h0 _ e'),hd⟩,S,hk,hS⟩
theorem IsRamK.dropped {w w':World} {K:Nat->Prop} {rb mb n:Nat} {has:Int->Bool} {F:Int} {M:Int->Int} {S:List Nat} {pg:Int->Option Nat} {k:Int}
 (hk:HasOk w rb S has) (q3:mb∉S) (q4:w.cell? ⟨rb,0,none⟩=some (.int .i64 F)) (q5:w.cell? ⟨rb,2,none⟩=some (.map (some mb)))
 (hp: ∀ k b,pg k=some b->0<=b/\b<w.heap.size/\b∉S/\b≠mb/\Page w b (fun i=>M (k*4096+i)))
 (hi: ∀ k k' b,pg k=some b->pg k'=some b->k=k') (hz: ∀ k,pg k=none-> ∀ i:Nat,i<4096->M (k*4096+i)=0) (hb: ∀ t,0<=M t/\M t<256)
 (hm':Mem w' mb n (put pg k none)) (hg:w.grownBy w' (some mb)) (h1: ¬ K mb) (h2: ∀ k b,pg k=some b-> ¬ K b) (h3: ∀ j,K j->j<w.heap.size):IsRamK w' K rb has F (mzero M k) n/\Kept K w w':=by
 have hrb:=hk.2.1 rb hk.1
 have hne: ∀ s,s∈S->some s≠some mb:=fun s hs e=>by cases e;exact q3 hs
 have hnerb:=hne rb hk.1
 refine ⟨⟨mb,S,put pg k none,⟨Nat.zero_le _,Nat.zero_le _,hk.keep (fun s hs=>hg.block s (hk.2.1 s hs) (hne s hs)) hg.size,q3,?_,?_,hm',?_,?_,?_,?_⟩,h1,(fun j b e=>by unfold put at e;by_cases c:j=k;(rw [if_pos c] at e;cases e);(rw [if_neg c] at e;exact h2 j b e)),fun j hj=>nla (h3 j hj) hg.size⟩,⟨hg.os,hg.tape,hg.output,hg.size,fun j hj=>hg.block j (h3 j hj) (fun e=>by cases e;exact h1 hj)⟩⟩
 . rw [World.cell?_of_block (w:=w) (a:=⟨rb,0,none⟩) (hg.block rb hrb hnerb)];exact q4
 . rw [World.cell?_of_block (w:=w) (a:=⟨rb,2,none⟩) (hg.block rb hrb hnerb)];exact q5
 . intro j b hjb
   unfold put at hjb
   by_cases c:j=k
   . rw [if_pos c] at hjb;cases hjb
   . rw [if_neg c] at hjb
     obtain ⟨r1,r2,r3,r4,r5⟩:=hp j b hjb
     refine ⟨r1,nla r2 hg.size,r3,r4,(r5.of_block (hg.block b r2 (by intro e;cases e;exact r4 rfl))).congr fun i hi'=> ?_⟩
     unfold mzero;rw [if_neg (by omega)]
 . intro j j' b hjb hjb'
   unfold put at hjb hjb'
   by_cases c:j=k
   . rw [if_pos c] at hjb;cases hjb
   . by_cases c':j'=k
     . rw [if_pos c'] at hjb';cases hjb'
     . rw [if_neg c] at hjb;rw [if_neg c'] at hjb';exact hi j j' b hjb hjb'
 . intro j hj i hi'
   unfold put at hj
   unfold mzero
   by_cases c:j=k
   . rw [if_pos (by omega)]
   . rw [if_neg c] at hj
     rw [if_neg (by omega)];exact hz j hj i hi'
 . intro t;unfold mzero;split
   . exact ⟨by omega,by omega⟩
   . exact hb t
theorem zero_K {w:World} {K:Nat->Prop} {rb:Nat} {has:Int->Bool} {F:Int} {M:Int->Int} {n:Nat} (h:IsRamK w K rb has F M n) (k:Int) (k0: -9223372036854775808<=k) (k1:k<=9223372036854775807) (hh:has k=true) :
 Calls Tryz.prog 89 #[.pointer (some ⟨rb,0,none⟩),.int .i64 k] w fun e w'=>e=.returned (.int .i64 0)/\IsRamK w' K rb has F (mzero M k) n/\Kept K w w':=by
 obtain ⟨S0,hk0⟩:=h.hasOk
 have hc:Hid (∀ u:Unit,Calls Tryz.prog 62 #[.pointer (some ⟨rb,0,none⟩),.int .i64 k] w fun e w2=>e=.returned (.bool true)/\w.grownBy w2 none):=by
  intro _;rw [<- hh];exact hk0.2.2 w (fun _ _=>rfl) (Nat.le_refl _) k
 have HI:Hid (IsRamK w K rb has F M n):=h
 clear h hk0 hh
 go_enter Tryz.func89,Tryz.ntmps89
 go_wp2_with fail
 refine (hc.out ()).mono ?_
 rintro e w1 ⟨rfl,hg1⟩
 obtain ⟨mb,S,pg,⟨q1,q2,hk,q3,q4,q5,hm,hp,hi,hz,hb⟩,h1,h2,h3⟩:=HI.out.grown hg1
 have hd: ∃ w2,(∀ ty,(Builtin.delete_ #[193,3] ty #[.map (some mb),.int .i64 k]).run Tryz.prog w1=.ok (.tuple #[]) w2)/\IsRamK w2 K rb has F (mzero M k) n/\Kept K w1 w2:=by
  obtain ⟨w2,hr,hm2,hg2⟩:=hm.drop k0 k1 0
  exact ⟨w2,fun ty=>hr,IsRamK.dropped hk q3 q4 q5 hp hi hz hb hm2 hg2 h1 h2 h3⟩
 obtain ⟨w2,hdel,hI2,hb2⟩:=hd
 have HI2:Hid (IsRamK w2 K rb has F (mzero M k) n/\Kept K w w2):=⟨hI2,(kept_of_grown0 hg1 HI.out.dom).trans hb2⟩
 clear h1 h2 h3 hI2 hb2 hp hi hz hb hm hk q1 q2 q3 q4 hg1
 go_wp2_with fail
 go_ret
 exact ⟨rfl,HI2.out⟩
structure Ram5 (w:World) (K:Nat->Prop) (S:List Nat) (rb:Nat) (has:Int->Bool) (F:Int) (M:Int->Int) (n:Nat):Prop where
 ram:IsRamK w K rb has F M n
 ok:HasOk w rb S has
 sub: ∀ s,s∈S->K s
theorem Ram5.mono {w:World} {K:Nat->Prop} {S:List Nat} {rb n m:Nat} {has:Int->Bool} {F:Int} {M:Int->Int} (h:Ram5 w K S rb has F M n) (hn:n<=m):Ram5 w K S rb has F M m:=⟨h.ram.mono hn,h.ok,h.sub⟩
theorem Ram5.next {w w':World} {K:Nat->Prop} {S:List Nat} {rb n m:Nat} {has:Int->Bool} {F:Int} {M M':Int->Int} (h:Ram5 w K S rb has F M n) (hr:IsRamK w' K rb has F M' m) (hk:Kept K w w'):Ram5 w' K S rb has F M' m :=
 ⟨hr,h.ok.keep (fun s hs=>hk.block s (h.sub s hs)) hk.size,h.sub⟩
theorem Ram5.poke {w w':World} {K:Nat->Prop} {S:List Nat} {rb n m:Nat} {has:Int->Bool} {F:Int} {M:Int->Int} (h:Ram5 w K S rb has F M n) (hg:w.grownBy w' (some m)) (hm:K m) (hS:m∉S):Ram5 w' K S rb has F M n:=by
 have h2:=(h.ram.toS h.ok).poke hg (fun f e=>by cases e;exact ⟨hm,hS⟩)
 have h3:=h2.back (fun j hj=>hj) h.sub (fun j hj=>nla (h.ram.dom j hj) hg.size)
 exact ⟨h3.1,h2.choose_spec.choose_spec.1,h.sub⟩
end
end Go.Proofs.YtgbdnnkkcpkhdaaGreatDoor
