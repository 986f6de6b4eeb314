import Derived.Test.YtajfbieacfjhnaaGreatDoorMRc
import Derived.Laws.Rows
import Derived.Stop.BytesEq
namespace Go.Proofs.YtajfbieacfjhnaaGreatDoor
open Go.ChangeShapes Go.WideShapes Go.ChangeAt Go.RowKit Go.Maps
set_option linter.unusedSimpArgs false
set_option linter.unusedVariables false
set_option maxRecDepth 8000
theorem grown_trans {a b c:World} (h:a.grownBy b none) (k:b.grownBy c none):a.grownBy c none :=
 ⟨k.os.trans h.os,k.tape.trans h.tape,k.output.trans h.output,Nat.le_trans h.size k.size,fun j hj hne=>(k.block j (Nat.lt_of_lt_of_le hj h.size) hne).trans (h.block j hj hne)⟩
def HasOk (w:World) (rb:Nat) (S:List Nat) (has:Int->Bool):Prop :=
 rb∈S/\(∀ s,s∈S->s<w.heap.size)/\ ∀ w1:World,(∀ s,s∈S->w1.heap[s]? =w.heap[s]?)->w.heap.size<=w1.heap.size-> ∀ k:Int,
  Calls Tryz.prog 141 #[.pointer (some ⟨rb,0,none⟩),.int .i64 k] w1 fun e w2=>e=.returned (.bool (has k))/\w1.grownBy w2 none
theorem HasOk.keep {w w':World} {rb:Nat} {S:List Nat} {has:Int->Bool} (h:HasOk w rb S has) (hb: ∀ s,s∈S->w'.heap[s]? =w.heap[s]?) (hs:w.heap.size<=w'.heap.size):HasOk w' rb S has:=by
 obtain ⟨h1,h2,h3⟩:=h
 exact ⟨h1,fun s hs'=>Nat.lt_of_lt_of_le (h2 s hs') hs,fun w1 e1 e2 k=>h3 w1 (fun s hs'=>(e1 s hs').trans (hb s hs')) (Nat.le_trans hs e2) k⟩
def chkG (has:Int->Bool) (addr size:Int):Int :=
 if size=1\/size=2\/size=4\/size=8 then
  if addr+size<=18446744073709551616/\has (addr / 4096)=true/\has ((addr+size-1) / 4096)=true then 0 else 2
 else 1
set_option maxHeartbeats 400000 in
theorem checkG_1 (rb:Nat) (S:List Nat) (has:Int->Bool) (addr:Int) (w:World) (h0:0<=addr) (h1:addr<18446744073709551616) (hk:HasOk w rb S has) :
 Calls Tryz.prog 148 #[.pointer (some ⟨rb,0,none⟩),.int .u64 addr,.int .i64 1] w fun e w'=>e=.returned (.int .i64 (chkG has addr 1))/\w.grownBy w' none:=by
 have hh:Hid (∀ (k:Int) (w1:World),w.grownBy w1 none ->
  Calls Tryz.prog 141 #[.pointer (some ⟨rb,0,none⟩),.int .i64 k] w1 fun e w2=>e=.returned (.bool (has k))/\w.grownBy w2 none):=by
  intro k w1 hg
  refine (hk.2.2 w1 (fun s hs=>hg.block s (hk.2.1 s hs) (by simp)) hg.size k).mono ?_
  rintro e w2 ⟨he,hg2⟩
  exact ⟨he,grown_trans hg hg2⟩
 clear hk
 have sz:(1:Int)=1\/(1:Int)=2\/(1:Int)=4\/(1:Int)=8:=by omega
 by_cases o:addr+1<=18446744073709551616
 . have el:addr+1-1=addr:=by omega
   have hle:addr<18446744073709551616:=by omega
   have hnl: ¬ addr<addr:=by omega
   cases g1:has (addr / 4096)
   . have HC:Hid (chkG has addr 1=2):=by show chkG has addr 1=2;unfold chkG;rw [if_pos sz,if_neg (by rw [g1];simp)]
     clear el sz
     go_enter Tryz.func148,Tryz.ntmps148
     go_wp2_with fail
     refine (hh.out _ _ (World.grownBy.refl _ _)).mono ?_
     rintro e w1 ⟨rfl,hg1⟩
     go_wp2_with fail
     go_ret
     exact ⟨by rw [HC.out];rfl,hg1⟩
   . cases g2:has ((addr) / 4096)
     . have HC:Hid (chkG has addr 1=2):=by show chkG has addr 1=2;unfold chkG;rw [if_pos sz,el,if_neg (by rw [g2];simp)]
       clear el sz
       rw [g1] at g2;cases g2
     . have HC:Hid (chkG has addr 1=0):=by show chkG has addr 1=0;unfold chkG;rw [if_pos sz,el,if_pos ⟨o,g1,g2⟩]
       clear el sz
       go_enter Tryz.func148,Tryz.ntmps148
       go_wp2_with fail
       refine (hh.out _ _ (World.grownBy.refl _ _)).mono ?_
       rintro e w1 ⟨rfl,hg1⟩
       go_wp2_with fail
       refine (hh.out _ _ hg1).mono ?_
       rintro e w2 ⟨rfl,hg2⟩
       go_wp2_with fail
       go_ret
       exact ⟨by rw [HC.out];rfl,hg2⟩
 . omega
set_option maxHeartbeats 400000 in
theorem checkG_2 (rb:Nat) (S:List Nat) (has:Int->Bool) (addr:Int) (w:World) (h0:0<=addr) (h1:addr<18446744073709551616) (hk:HasOk w rb S has) :
 Calls Tryz.prog 148 #[.pointer (some ⟨rb,0,none⟩),.int .u64 addr,.int .i64 2] w fun e w'=>e=.returned (.int .i64 (chkG has addr 2))/\w.grownBy w' none:=by
 have hh:Hid (∀ (k:Int) (w1:World),w.grownBy w1 none ->
  Calls Tryz.prog 141 #[.pointer (some ⟨rb,0,none⟩),.int .i64 k] w1 fun e w2=>e=.returned (.bool (has k))/\w.grownBy w2 none):=by
  intro k w1 hg
  refine (hk.2.2 w1 (fun s hs=>hg.block s (hk.2.1 s hs) (by simp)) hg.size k).mono ?_
  rintro e w2 ⟨he,hg2⟩
  exact ⟨he,grown_trans hg hg2⟩
 clear hk
 have sz:(2:Int)=1\/(2:Int)=2\/(2:Int)=4\/(2:Int)=8:=by omega
 by_cases o:addr+2<=18446744073709551616
 . have el:addr+2-1=addr+1:=by omega
   have hle:addr+1<18446744073709551616:=by omega
   have hnl: ¬ addr+1<addr:=by omega
   cases g1:has (addr / 4096)
   . have HC:Hid (chkG has addr 2=2):=by show chkG has addr 2=2;unfold chkG;rw [if_pos sz,if_neg (by rw [g1];simp)]
     clear el sz
     go_enter Tryz.func148,Tryz.ntmps148
     go_wp2_with fail
     refine (hh.out _ _ (World.grownBy.refl _ _)).mono ?_
     rintro e w1 ⟨rfl,hg1⟩
     go_wp2_with fail
     go_ret
     exact ⟨by rw [HC.out];rfl,hg1⟩
   . cases g2:has ((addr+1) / 4096)
     . have HC:Hid (chkG has addr 2=2):=by show chkG has addr 2=2;unfold chkG;rw [if_pos sz,el,if_neg (by rw [g2];simp)]
       clear el sz
       go_enter Tryz.func148,Tryz.ntmps148
       go_wp2_with fail
       refine (hh.out _ _ (World.grownBy.refl _ _)).mono ?_
       rintro e w1 ⟨rfl,hg1⟩
       go_wp2_with fail
       refine (hh.out _ _ hg1).mono ?_
       rintro e w2 ⟨rfl,hg2⟩
       go_wp2_with fail
       go_ret
       exact ⟨by rw [HC.out];rfl,hg2⟩
     . have HC:Hid (chkG has addr 2=0):=by show chkG has addr 2=0;unfold chkG;rw [if_pos sz,el,if_pos ⟨o,g1,g2⟩]
       clear el sz
       go_enter Tryz.func148,Tryz.ntmps148
       go_wp2_with fail
       refine (hh.out _ _ (World.grownBy.refl _ _)).mono ?_
       rintro e w1 ⟨rfl,hg1⟩
       go_wp2_with fail
       refine (hh.out _ _ hg1).mono ?_
       rintro e w2 ⟨rfl,hg2⟩
       go_wp2_with fail
       go_ret
       exact ⟨by rw [HC.out];rfl,hg2⟩
 . have HC:Hid (chkG has addr 2=2):=by show chkG has addr 2=2;unfold chkG;rw [if_pos sz,if_neg (fun k=>o k.1)]
   have hw:IntKind.u64.wrap (addr+1)=addr+1-18446744073709551616:=by rw [IntKind.wrap_u64];omega
   have hl:addr+1-18446744073709551616<addr:=by omega
   clear o sz
   go_enter Tryz.func148,Tryz.ntmps148
   go_wp2_with fail
   go_ret
   exact ⟨by rw [HC.out];rfl,(World.grownBy.refl _ _)⟩
set_option maxHeartbeats 400000 in
theorem checkG_4 (rb:Nat) (S:List Nat) (has:Int->Bool) (addr:Int) (w:World) (h0:0<=addr) (h1:addr<18446744073709551616) (hk:HasOk w rb S has) :
 Calls Tryz.prog 148 #[.pointer (some ⟨rb,0,none⟩),.int .u64 addr,.int .i64 4] w fun e w'=>e=.returned (.int .i64 (chkG has addr 4))/\w.grownBy w' none:=by
 have hh:Hid (∀ (k:Int) (w1:World),w.grownBy w1 none ->
  Calls Tryz.prog 141 #[.pointer (some ⟨rb,0,none⟩),.int .i64 k] w1 fun e w2=>e=.returned (.bool (has k))/\w.grownBy w2 none):=by
  intro k w1 hg
  refine (hk.2.2 w1 (fun s hs=>hg.block s (hk.2.1 s hs) (by simp)) hg.size k).mono ?_
  rintro e w2 ⟨he,hg2⟩
  exact ⟨he,grown_trans hg hg2⟩
 clear hk
 have sz:(4:Int)=1\/(4:Int)=2\/(4:Int)=4\/(4:Int)=8:=by omega
 by_cases o:addr+4<=18446744073709551616
 . have el:addr+4-1=addr+3:=by omega
   have hle:addr+3<18446744073709551616:=by omega
   have hnl: ¬ addr+3<addr:=by omega
   cases g1:has (addr / 4096)
   . have HC:Hid (chkG has addr 4=2):=by show chkG has addr 4=2;unfold chkG;rw [if_pos sz,if_neg (by rw [g1];simp)]
     clear el sz
     go_enter Tryz.func148,Tryz.ntmps148
     go_wp2_with fail
     refine (hh.out _ _ (World.grownBy.refl _ _)).mono ?_
     rintro e w1 ⟨rfl,hg1⟩
     go_wp2_with fail
     go_ret
     exact ⟨by rw [HC.out];rfl,hg1⟩
   . cases g2:has ((addr+3) / 4096)
     . have HC:Hid (chkG has addr 4=2):=by show chkG has addr 4=2;unfold chkG;rw [if_pos sz,el,if_neg (by rw [g2];simp)]
       clear el sz
       go_enter Tryz.func148,Tryz.ntmps148
       go_wp2_with fail
       refine (hh.out _ _ (World.grownBy.refl _ _)).mono ?_
       rintro e w1 ⟨rfl,hg1⟩
       go_wp2_with fail
       refine (hh.out _ _ hg1).mono ?_
       rintro e w2 ⟨rfl,hg2⟩
       go_wp2_with fail
       go_ret
       exact ⟨by rw [HC.out];rfl,hg2⟩
     . have HC:Hid (chkG has addr 4=0):=by show chkG has addr 4=0;unfold chkG;rw [if_pos sz,el,if_pos ⟨o,g1,g2⟩]
       clear el sz
       go_enter Tryz.func148,Tryz.ntmps148
       go_wp2_with fail
       refine (hh.out _ _ (World.grownBy.refl _ _)).mono ?_
       rintro e w1 ⟨rfl,hg1⟩
       go_wp2_with fail
       refine (hh.out _ _ hg1).mono ?_
       rintro e w2 ⟨rfl,hg2⟩
       go_wp2_with fail
       go_ret
       exact ⟨by rw [HC.out];rfl,hg2⟩
 . have HC:Hid (chkG has addr 4=2):=by show chkG has addr 4=2;unfold chkG;rw [if_pos sz,if_neg (fun k=>o k.1)]
   have hw:IntKind.u64.wrap (addr+3)=addr+3-18446744073709551616:=by rw [IntKind.wrap_u64];omega
   have hl:addr+3-18446744073709551616<addr:=by omega
   clear o sz
   go_enter Tryz.func148,Tryz.ntmps148
   go_wp2_with fail
   go_ret
   exact ⟨by rw [HC.out];rfl,(World.grownBy.refl _ _)⟩
set_option maxHeartbeats 400000 in
theorem checkG_8 (rb:Nat) (S:List Nat) (has:Int->Bool) (addr:Int) (w:World) (h0:0<=addr) (h1:addr<18446744073709551616) (hk:HasOk w rb S has) :
 Calls Tryz.prog 148 #[.pointer (some ⟨rb,0,none⟩),.int .u64 addr,.int .i64 8] w fun e w'=>e=.returned (.int .i64 (chkG has addr 8))/\w.grownBy w' none:=by
 have hh:Hid (∀ (k:Int) (w1:World),w.grownBy w1 none ->
  Calls Tryz.prog 141 #[.pointer (some ⟨rb,0,none⟩),.int .i64 k] w1 fun e w2=>e=.returned (.bool (has k))/\w.grownBy w2 none):=by
  intro k w1 hg
  refine (hk.2.2 w1 (fun s hs=>hg.block s (hk.2.1 s hs) (by simp)) hg.size k).mono ?_
  rintro e w2 ⟨he,hg2⟩
  exact ⟨he,grown_trans hg hg2⟩
 clear hk
 have sz:(8:Int)=1\/(8:Int)=2\/(8:Int)=4\/(8:Int)=8:=by omega
 by_cases o:addr+8<=18446744073709551616
 . have el:addr+8-1=addr+7:=by omega
   have hle:addr+7<18446744073709551616:=by omega
   have hnl: ¬ addr+7<addr:=by omega
   cases g1:has (addr / 4096)
   . have HC:Hid (chkG has addr 8=2):=by show chkG has addr 8=2;unfold chkG;rw [if_pos sz,if_neg (by rw [g1];simp)]
     clear el sz
     go_enter Tryz.func148,Tryz.ntmps148
     go_wp2_with fail
     refine (hh.out _ _ (World.grownBy.refl _ _)).mono ?_
     rintro e w1 ⟨rfl,hg1⟩
     go_wp2_with fail
     go_ret
     exact ⟨by rw [HC.out];rfl,hg1⟩
   . cases g2:has ((addr+7) / 4096)
     . have HC:Hid (chkG has addr 8=2):=by show chkG has addr 8=2;unfold chkG;rw [if_pos sz,el,if_neg (by rw [g2];simp)]
       clear el sz
       go_enter Tryz.func148,Tryz.ntmps148
       go_wp2_with fail
       refine (hh.out _ _ (World.grownBy.refl _ _)).mono ?_
       rintro e w1 ⟨rfl,hg1⟩
       go_wp2_with fail
       refine (hh.out _ _ hg1).mono ?_
       rintro e w2 ⟨rfl,hg2⟩
       go_wp2_with fail
       go_ret
       exact ⟨by rw [HC.out];rfl,hg2⟩
     . have HC:Hid (chkG has addr 8=0):=by show chkG has addr 8=0;unfold chkG;rw [if_pos sz,el,if_pos ⟨o,g1,g2⟩]
       clear el sz
       go_enter Tryz.func148,Tryz.ntmps148
       go_wp2_with fail
       refine (hh.out _ _ (World.grownBy.refl _ _)).mono ?_
       rintro e w1 ⟨rfl,hg1⟩
       go_wp2_with fail
       refine (hh.out _ _ hg1).mono ?_
       rintro e w2 ⟨rfl,hg2⟩
       go_wp2_with fail
       go_ret
       exact ⟨by rw [HC.out];rfl,hg2⟩
 . have HC:Hid (chkG has addr 8=2):=by show chkG has addr 8=2;unfold chkG;rw [if_pos sz,if_neg (fun k=>o k.1)]
   have hw:IntKind.u64.wrap (addr+7)=addr+7-18446744073709551616:=by rw [IntKind.wrap_u64];omega
   have hl:addr+7-18446744073709551616<addr:=by omega
   clear o sz
   go_enter Tryz.func148,Tryz.ntmps148
   go_wp2_with fail
   go_ret
   exact ⟨by rw [HC.out];rfl,(World.grownBy.refl _ _)⟩
set_option maxHeartbeats 400000 in
theorem checkG_arg (rb:Nat) (has:Int->Bool) (addr size:Int) (w:World) (hs: ¬ (size=1\/size=2\/size=4\/size=8)) :
 Calls Tryz.prog 148 #[.pointer (some ⟨rb,0,none⟩),.int .u64 addr,.int .i64 size] w fun e w'=>e=.returned (.int .i64 (chkG has addr size))/\w.grownBy w' none:=by
 have HC:Hid (chkG has addr size=1):=by show chkG has addr size=1;unfold chkG;rw [if_neg hs]
 have b1:(size==1)=false:=beq_eq_false_iff_ne.2 (by omega)
 have b2:(size==2)=false:=beq_eq_false_iff_ne.2 (by omega)
 have b4:(size==4)=false:=beq_eq_false_iff_ne.2 (by omega)
 have b8:(size==8)=false:=beq_eq_false_iff_ne.2 (by omega)
 clear hs
 go_enter Tryz.func148,Tryz.ntmps148
 go_wp2
 go_ret
 exact ⟨by rw [HC.out];rfl,World.grownBy.refl _ _⟩
theorem check_any (rb:Nat) (S:List Nat) (has:Int->Bool) (addr size:Int) (w:World) (h0:0<=addr) (h1:addr<18446744073709551616) (hk:HasOk w rb S has) :
 Calls Tryz.prog 148 #[.pointer (some ⟨rb,0,none⟩),.int .u64 addr,.int .i64 size] w fun e w'=>e=.returned (.int .i64 (chkG has addr size))/\w.grownBy w' none:=by
 by_cases hs:size=1\/size=2\/size=4\/size=8
 . rcases hs with rfl | rfl | rfl | rfl
   . exact checkG_1 rb S has addr w h0 h1 hk
   . exact checkG_2 rb S has addr w h0 h1 hk
   . exact checkG_4 rb S has addr w h0 h1 hk
   . exact checkG_8 rb S has addr w h0 h1 hk
 . exact checkG_arg rb has addr size w hs
def mset (M:Int->Int) (addr m x:Int):Int->Int:=fun t=>if addr<=t/\t<addr+m then x / 256 ^ (t-addr).toNat % 256 else M t
def ld (M:Int->Int) (addr:Int):Nat->Int
 | 0 => 0
 | i + 1 => ld M addr i + M (addr + i) * 256 ^ i
def IsRam (w:World) (B rb:Nat) (has:Int->Bool) (F:Int) (M:Int->Int) (n:Nat):Prop :=
 ∃ (mb:Nat) (S:List Nat) (pg:Int->Option Nat),B<=rb/\B<=mb/\HasOk w rb S has/\mb∉S /\
  w.cell? ⟨rb,0,none⟩=some (.int .i64 F)/\w.cell? ⟨rb,2,none⟩=some (.map (some mb))/\Mem w mb n pg /\
  (∀ k b,pg k=some b->B<=b/\b<w.heap.size/\b∉S/\b≠mb/\Page w b (fun i=>M (k*4096+i))) /\
  (∀ k k' b,pg k=some b->pg k'=some b->k=k')/\(∀ k,pg k=none-> ∀ i:Nat,i<4096->M (k*4096+i)=0)/\ ∀ t,0<=M t/\M t<256
theorem Page.of_block {w w':World} {b:Nat} {c:Nat->Int} (h:Page w b c) (hb:w'.heap[b]? =w.heap[b]?):Page w' b c:=by
 intro i hi
 obtain ⟨h1,h2⟩:=h i hi
 exact ⟨(World.cell?_of_block (a:=⟨b,i,none⟩) hb).trans h1,(World.frozen?_of_block (a:=⟨b,i,none⟩) hb).trans h2⟩
theorem IsRam.grown {w w':World} {B rb:Nat} {has:Int->Bool} {F:Int} {M:Int->Int} {n:Nat} (h:IsRam w B rb has F M n) (hg:w.grownBy w' none):IsRam w' B rb has F M n:=by
 obtain ⟨mb,S,pg,q1,q2,hk,q3,q4,q5,hm,hp,hi,hz,hb⟩:=h
 have hrb:=hk.2.1 rb hk.1
 refine ⟨mb,S,pg,q1,q2,hk.keep (fun s hs=>hg.block s (hk.2.1 s hs) (by simp)) hg.size,q3,?_,?_,hm.kept hg (by simp),?_,hi,hz,hb⟩
 . rw [World.cell?_of_block (w:=w) (a:=⟨rb,0,none⟩) (hg.block rb hrb (by simp))];exact q4
 . rw [World.cell?_of_block (w:=w) (a:=⟨rb,2,none⟩) (hg.block rb hrb (by simp))];exact q5
 . intro k b hkb
   obtain ⟨r1,r2,r3,r4,r5⟩:=hp k b hkb
   exact ⟨r1,Nat.lt_of_lt_of_le r2 hg.size,r3,r4,r5.of_block (hg.block b r2 (by simp))⟩
theorem ld_le (M:Int->Int) (k:Int) (a:Nat): ∀ m,le (fun i=>M (k*4096+i)) a m=ld M (k*4096+a) m
 | 0 => rfl
 | m + 1 => by
  simp only [le,ld,ld_le M k a m]
  rw [show (k*4096+((a+m:Nat):Int))=k*4096+a+m by omega]
theorem ld_zero {M:Int->Int} {addr:Int}: ∀ {m:Nat},(∀ i:Nat,i<m->M (addr+i)=0)->ld M addr m=0
 | 0, _ => rfl
 | m + 1, h => by
  simp only [ld]
  rw [ld_zero (fun i hi=>h i (by omega)),h m (by omega)];simp
theorem read_any {w:World} {B rb:Nat} {has:Int->Bool} {F:Int} {M:Int->Int} {n:Nat} (h:IsRam w B rb has F M n) (k a m:Int) (k0: -9223372036854775808<=k) (k1:k<=9223372036854775807)
 (a0:0<=a) (m0:0<=m) (m8:m<=8) (am:a+m<=4096) :
 Calls Tryz.prog 150 #[.pointer (some ⟨rb,0,none⟩),.int .i64 k,.int .i64 a,.int .i64 m] w fun e w'=>e=.returned (.int .u64 (ld M (k*4096+a) m.toNat))/\w'=w:=by
 obtain ⟨mb,S,pg,q1,q2,hk,q3,q4,q5,hm,hp,hi,hz,hb⟩:=h
 cases hpk:pg k with
 | none =>
  refine (read_none rb mb n pg k a m w k0 k1 q5 hm hpk).mono ?_
  rintro e w' ⟨he,hw⟩
  refine ⟨?_,hw⟩
  rw [he,ld_zero]
  intro i hi'
  have:=hz k hpk (a.toNat+i) (by omega)
  rw [show k*4096+a+(i:Int)=k*4096+((a.toNat+i:Nat):Int) by omega];exact this
 | some b =>
  obtain ⟨r1,r2,r3,r4,r5⟩:=hp k b hpk
  refine (read_some rb mb n b pg (fun i=>M (k*4096+i)) k a m w k0 k1 q5 hm hpk (fun i=>hb _) (fun i hi'=>(r5 i hi').1) a0 m0 m8 am).mono ?_
  rintro e w' ⟨he,hw⟩
  refine ⟨?_,hw⟩
  rw [he,ld_le,show k*4096+((a.toNat:Nat):Int)=k*4096+a by omega]
end Go.Proofs.YtajfbieacfjhnaaGreatDoor
namespace Go.Proofs.YtajfbieacfjhnaaGreatDoor
open Go.ChangeShapes Go.WideShapes Go.ChangeAt Go.RowKit Go.Maps
set_option linter.unusedSimpArgs false
set_option linter.unusedVariables false
set_option maxRecDepth 8000
theorem Page.congr {w:World} {b:Nat} {c c':Nat->Int} (h:Page w b c) (he: ∀ i,i<4096->c i=c' i):Page w b c':=by
 intro i hi;rw [<- he i hi];exact h i hi
theorem Mem.mono {w:World} {mb n n':Nat} {pg:Int->Option Nat} (h:Mem w mb n pg) (hn:n<=n'):Mem w mb n' pg:=by
 obtain ⟨D,hown,hD⟩:=h;exact ⟨D,hown.mono hn,hD⟩
theorem mset_in (M:Int->Int) (k x:Int) (a m i:Nat):mset M (k*4096+a) m x (k*4096+i)=cset (fun i=>M (k*4096+i)) a m x i:=by
 unfold mset cset
 by_cases c:a<=i/\i<a+m
 . rw [if_pos c,if_pos (by omega),show (k*4096+(i:Int)-(k*4096+(a:Int))).toNat=i-a by omega]
 . rw [if_neg c,if_neg (by omega)]
theorem mset_out (M:Int->Int) {k j x:Int} {a m i:Nat} (hj:j≠k) (am:a+m<=4096) (hi:i<4096):mset M (k*4096+a) m x (j*4096+i)=M (j*4096+i):=by
 unfold mset;rw [if_neg (by omega)]
theorem mset_byte {M:Int->Int} (hb: ∀ t,0<=M t/\M t<256) (addr m x t:Int):0<=mset M addr m x t/\mset M addr m x t<256:=by
 unfold mset;split
 . exact ⟨Int.emod_nonneg _ (by omega),Int.emod_lt_of_pos _ (by omega)⟩
 . exact hb t
end Go.Proofs.YtajfbieacfjhnaaGreatDoor
namespace Go.Proofs.YtajfbieacfjhnaaGreatDoor
open Go.ChangeShapes Go.WideShapes Go.ChangeAt Go.RowKit Go.Maps
set_option linter.unusedSimpArgs false
set_option linter.unusedVariables false
set_option maxRecDepth 8000
theorem IsRam.hasOk {w:World} {B rb:Nat} {has:Int->Bool} {F:Int} {M:Int->Int} {n:Nat} (h:IsRam w B rb has F M n): ∃ S,HasOk w rb S has:=by
 obtain ⟨mb,S,pg,q1,q2,hk,_⟩:=h;exact ⟨S,hk⟩
theorem IsRam.byte {w:World} {B rb:Nat} {has:Int->Bool} {F:Int} {M:Int->Int} {n:Nat} (h:IsRam w B rb has F M n): ∀ t,0<=M t/\M t<256:=by
 obtain ⟨mb,S,pg,q1,q2,hk,q3,q4,q5,hm,hp,hi,hz,hb⟩:=h;exact hb
theorem div_pow_pow (x:Int) (hx:0<=x) (a b:Nat):x / 256 ^ a / 256 ^ b=x / 256 ^ (a+b):=by
 rw [Int.pow_add,Int.ediv_ediv_of_nonneg (Int.le_of_lt (Int.pow_pos (by omega)))]
theorem mset_two (M:Int->Int) (addr L size x:Int) (hx:0<=x) (l0:0<=L) (l1:L<=size):mset (mset M addr L x) (addr+L) (size-L) (x / 256 ^ L.toNat)=mset M addr size x:=by
 funext t
 unfold mset
 by_cases c1:addr+L<=t/\t<addr+L+(size-L)
 . rw [if_pos c1,if_pos (by omega),div_pow_pow x hx,show L.toNat+(t-(addr+L)).toNat=(t-addr).toNat by omega]
 . rw [if_neg c1]
   by_cases c2:addr<=t/\t<addr+L
   . rw [if_pos c2,if_pos (by omega)]
   . rw [if_neg c2,if_neg (by omega)]
theorem ld_bd {M:Int->Int} (hM: ∀ t,0<=M t/\M t<256) (addr:Int): ∀ n:Nat,0<=ld M addr n/\ld M addr n<256 ^ n
 | 0 => by simp [ld]
 | n + 1 => by
  have h:=ld_bd hM addr n
  have h2:=hM (addr+n)
  simp only [ld]
  have hp:(0:Int)<256 ^ n:=Int.pow_pos (by omega)
  have h3:0<=M (addr+n)*256 ^ n:=Int.mul_nonneg h2.1 (by omega)
  have h4:M (addr+n)*256 ^ n<=255*256 ^ n:=Int.mul_le_mul_of_nonneg_right (by omega) (by omega)
  rw [Int.pow_succ]
  omega
theorem ld_add (M:Int->Int) (addr:Int) (l:Nat): ∀ r:Nat,ld M addr (l+r)=ld M addr l+ld M (addr+l) r*256 ^ l
 | 0 => by simp [ld]
 | r + 1 => by
  rw [<- Nat.add_assoc]
  simp only [ld]
  rw [ld_add M addr l r,Int.pow_add,Int.add_mul,show addr+((l+r:Nat):Int)=addr+l+r by omega,<- Int.mul_assoc,Int.mul_right_comm (M _) _ _,Int.add_assoc]
theorem pow_le8 {m:Nat} (h:m<=8):(256:Int) ^ m<=18446744073709551616:=by
 rcases (show m=0\/m=1\/m=2\/m=3\/m=4\/m=5\/m=6\/m=7\/m=8 by omega) with rfl | rfl | rfl | rfl | rfl | rfl | rfl | rfl | rfl <;> decide
theorem or_part {X Y:Int} {l r:Nat} (x0:0<=X) (x1:X<256 ^ l) (y0:0<=Y) (y1:Y<256 ^ r) (h8:l+r<=8):bits .or .u64 X (IntKind.u64.wrap (Y*2 ^ (8*l)))=X+Y*256 ^ l:=by
 have hp:(0:Int)<256 ^ l:=Int.pow_pos (by omega)
 have h1:(Y+1)*256 ^ l<=256 ^ r*256 ^ l:=Int.mul_le_mul_of_nonneg_right (by omega) (by omega)
 rw [<- Int.pow_add,Nat.add_comm r l,Int.add_mul,Int.one_mul] at h1
 have h2:=pow_le8 h8
 have h3:0<=Y*256 ^ l:=Int.mul_nonneg y0 (by omega)
 rw [IntKind.wrap_u64,pow256,Int.emod_eq_of_lt h3 (by omega)]
 have h4:=or_at (8*l) X Y x0 (by rw [pow256];exact x1) y0 (by rw [pow256];omega)
 rw [pow256] at h4;exact h4
end Go.Proofs.YtajfbieacfjhnaaGreatDoor
namespace Go.Proofs.YtajfbieacfjhnaaGreatDoor
open Go.ChangeShapes Go.WideShapes Go.ChangeAt Go.RowKit Go.Maps
set_option linter.unusedSimpArgs false
set_option linter.unusedVariables false
set_option maxRecDepth 8000
set_option maxHeartbeats 400000 in
theorem clone_nil (w:World):Calls Tryz.prog 98 #[.slice none 0 0] w fun e w'=>e=.returned (.slice none 0 0)/\w'=w:=by
 have he: ∀ W:World,(binOp .eql 110 (.slice none 0 0) (.slice none 0 0)).run Tryz.prog W=.ok (.bool true) W:=fun W=>by kernel_rfl
 go_enter Tryz.func98,Tryz.ntmps98
 go_wp2
 go_ret
 exact ⟨rfl,rfl⟩
set_option maxHeartbeats 400000 in
theorem new_walk (F:Int) (f0:1<=F) (f1:F<=1048576) (w:World) :
 Calls Tryz.prog 47 #[.int .i64 F,.slice none 0 0] w fun e w'=>e=.returned (.tuple #[.pointer (some ⟨w.heap.size+1,0,none⟩),.int .i64 0]) /\
  w'=(w.alloc (.map #[] 0)).alloc (.cells #[.int .i64 F,.slice none 0 0,.map (some w.heap.size)] 188):=by
 have hmm:= @run_makeMap Tryz.prog
 go_enter Tryz.func47,Tryz.ntmps47
 go_wp2
 refine wp_loop_rounds 1 ?_
 rw [rounds_succ]
 go_wp2_with (go_at_call 98;refine (clone_nil _).mono ?_;rintro e w' ⟨rfl,rfl⟩)
 go_ret2
 exact ⟨rfl,rfl⟩
end Go.Proofs.YtajfbieacfjhnaaGreatDoor
namespace Go.Proofs.YtajfbieacfjhnaaGreatDoor
open Go.ChangeShapes Go.WideShapes Go.ChangeAt Go.RowKit Go.Maps
set_option linter.unusedSimpArgs false
set_option linter.unusedVariables false
set_option maxRecDepth 8000
theorem mod_step (x:Int) (hx:0<=x) (i:Nat):x % 256 ^ i+x / 256 ^ i % 256*256 ^ i=x % 256 ^ (i+1):=by
 obtain ⟨X,rfl⟩:=Int.eq_ofNat_of_zero_le hx
 have h:=Nat.mod_mul (x:=X) (a:=256 ^ i) (b:=256)
 have e: ∀ n:Nat,((256:Int) ^ n)=((256 ^ n:Nat):Int):=fun n=>by rw [Int.natCast_pow];rfl
 rw [Int.pow_succ,e,<- Int.natCast_emod,<- Int.natCast_ediv]
 rw [show (256:Int)=((256:Nat):Int) from rfl,<- Int.natCast_emod,<- Int.natCast_mul,<- Int.natCast_mul,<- Int.natCast_add,<- Int.natCast_emod,h,Nat.mul_comm]
theorem ld_mset_low (M:Int->Int) (a m x:Int) (hx:0<=x): ∀ i:Nat,(i:Int)<=m->ld (mset M a m x) a i=x % 256 ^ i
 | 0, _ => by simp [ld]
 | i + 1, h => by
  simp only [ld]
  rw [ld_mset_low M a m x hx i (by omega)]
  have:mset M a m x (a+i)=x / 256 ^ i % 256:=by unfold mset;rw [if_pos (by omega),show (a+(i:Int)-a).toNat=i by omega]
  rw [this,mod_step x hx i]
theorem ld_mset8 (M:Int->Int) (a x:Int) (h0:0<=x) (h1:x<18446744073709551616):ld (mset M a 8 x) a (8:Int).toNat=x:=by
 rw [show (8:Int).toNat=8 from rfl,ld_mset_low M a 8 x h0 8 (by omega)]
 exact Int.emod_eq_of_lt h0 (by
  have:(256:Int) ^ 8=18446744073709551616:=by decide
  omega)
theorem ld_mset_apart (M:Int->Int) {a m x b:Int}: ∀ {n:Nat},(b+n<=a\/a+m<=b)->ld (mset M a m x) b n=ld M b n
 | 0, _ => rfl
 | n + 1, h => by
  simp only [ld]
  rw [ld_mset_apart M (n:=n) (by omega)]
  have:mset M a m x (b+n)=M (b+n):=by unfold mset;rw [if_neg (by omega)]
  rw [this]
end Go.Proofs.YtajfbieacfjhnaaGreatDoor
namespace Go.Proofs.YtajfbieacfjhnaaGreatDoor
open Go.ChangeShapes Go.WideShapes Go.ChangeAt Go.RowKit Go.Maps
set_option linter.unusedSimpArgs false
set_option linter.unusedVariables false
set_option maxRecDepth 8000
end Go.Proofs.YtajfbieacfjhnaaGreatDoor
namespace Go.Proofs.YtajfbieacfjhnaaGreatDoor
open Go.ChangeShapes Go.WideShapes Go.ChangeAt Go.RowKit Go.Maps
set_option linter.unusedSimpArgs false
set_option linter.unusedVariables false
set_option maxRecDepth 8000
theorem Mem.drop {w:World} {mb n:Nat} {pg:Int->Option Nat} (h:Mem w mb n pg) {k:Int} (h0: -9223372036854775808<=k) (h1:k<=9223372036854775807) (ty:TypeId) :
 ∃ w',(Builtin.delete_ #[186,3] ty #[.map (some mb),.int .i64 k]).run Tryz.prog w=.ok (.tuple #[]) w'/\Mem w' mb n (put pg k none)/\w.grownBy w' (some mb):=by
 obtain ⟨D,hown,hD⟩:=h
 obtain ⟨w',hrun,hown',ht⟩:=hown.drop keyLaw Tryz.underlying186 (keyOf_int_mk Tryz.underlying3 (wf64 h0 h1)) ty
 refine ⟨w',hrun,⟨_,hown',?_⟩,ht.grown⟩
 intro j
 unfold put
 by_cases c:j=k
 . subst c;rw [if_pos rfl];exact atKey_del_same _
 . rw [if_neg c,atKey_del_other (by intro e;cases e;exact c rfl)];exact hD j
def mzero (M:Int->Int) (k:Int):Int->Int:=fun t=>if k*4096<=t/\t<k*4096+4096 then 0 else M t
end Go.Proofs.YtajfbieacfjhnaaGreatDoor
namespace Go.Proofs.YtajfbieacfjhnaaGreatDoor
open Go.ChangeShapes Go.WideShapes Go.ChangeAt Go.RowKit Go.Maps
set_option linter.unusedSimpArgs false
set_option linter.unusedVariables false
set_option maxRecDepth 8000
end Go.Proofs.YtajfbieacfjhnaaGreatDoor
