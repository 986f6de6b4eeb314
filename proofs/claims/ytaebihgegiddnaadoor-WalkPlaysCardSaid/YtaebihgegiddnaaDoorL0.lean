/- The memory and beside it the document's, in a seat of walk. -/
import Derived.Test.YtaebihgegiddnaaDoorW15
import Derived.Test.YtaebihgegiddnaaDoorM2
import Derived.MapKept
namespace Go.Proofs.YtaebihgegiddnaaDoor
open Go.ChangeShapes Go.WideShapes Go.ChangeAt Go.RowKit Go.Maps
set_option linter.unusedSimpArgs false
set_option linter.unusedVariables false
set_option maxRecDepth 8000

theorem own_new (w : World) (o : Obj) : (w.alloc o).heap[w.heap.size]? = some o := (MapKept.heap_alloc w o).1
set_option maxHeartbeats 400000 in
theorem store_errG {w : World} {B rb : Nat} {has : Int → Bool} {F : Int} {M : Int → Int} {n : Nat} (h : IsRam w B rb has F M n) (addr size x : Int) (h0 : 0 ≤ addr) (h1 : addr < 18446744073709551616) (z : Int) (hz : chkG has addr size = z) (hnz : z ≠ 0) :
    Calls Tryd.prog 13 #[.pointer (some ⟨rb, 0, none⟩), .int .u64 addr, .int .i64 size, .int .u64 x] w fun e w' => e = .returned (.int .i64 z) ∧ w.grownBy w' none := by
  obtain ⟨S, hk⟩ := h.hasOk
  have ck : Hid (∀ u : Unit, Calls Tryd.prog 39 #[.pointer (some ⟨rb, 0, none⟩), .int .u64 addr, .int .i64 size] w fun e w' => e = .returned (.int .i64 z) ∧ w.grownBy w' none) := by
    intro _; rw [← hz]; exact check_any rb S has addr size w h0 h1 hk
  have HI : Hid (IsRam w B rb has F M n) := h
  have bz : (z != 0) = true := bne_iff_ne.2 hnz
  clear h hk hz hnz
  go_enter Tryd.func13, Tryd.ntmps13
  go_wp2_with fail
  refine (ck.out ()).mono ?_
  rintro e w1 ⟨rfl, hg1⟩
  go_wp2_with fail
  go_ret
  exact ⟨rfl, hg1⟩

structure Ram5 (w : World) (K : Nat → Prop) (S : List Nat) (rb : Nat) (has : Int → Bool) (F : Int) (M : Int → Int) (n : Nat) : Prop where
  ram : IsRamK w K rb has F M n
  ok : HasOk w rb S has
  sub : ∀ s, s ∈ S → K s
theorem Ram5.ofRam {w : World} {B rb n : Nat} {has : Int → Bool} {F : Int} {M : Int → Int} (h : IsRam w B rb has F M n) : ∃ (K : Nat → Prop) (S : List Nat), (∀ j, j < B → K j) ∧ Ram5 w K S rb has F M n := by
  obtain ⟨K, h1, h2, S, h3, h4⟩ := RamX.ofRam h h.size
  exact ⟨K, S, h1, h2, h3, h4⟩
theorem Ram5.mono {w : World} {K : Nat → Prop} {S : List Nat} {rb n m : Nat} {has : Int → Bool} {F : Int} {M : Int → Int} (h : Ram5 w K S rb has F M n) (hn : n ≤ m) : Ram5 w K S rb has F M m := ⟨h.ram.mono hn, h.ok, h.sub⟩
theorem Ram5.grow {w w' : World} {K : Nat → Prop} {S : List Nat} {rb n : Nat} {has : Int → Bool} {F : Int} {M : Int → Int} (h : Ram5 w K S rb has F M n) (hg : w.grownBy w' none) : Ram5 w' K S rb has F M n :=
  ⟨h.ram.grown hg, h.ok.keep (fun s hs => hg.block s (h.ok.2.1 s hs) (by simp)) hg.size, h.sub⟩
theorem Ram5.add {w : World} {K : Nat → Prop} {S : List Nat} {rb n : Nat} {has : Int → Bool} {F : Int} {M : Int → Int} (h : Ram5 w K S rb has F M n) (o : Obj) : Ram5 (w.alloc o) (fun j => K j ∨ j = w.heap.size) S rb has F M n :=
  have hg : w.grownBy (w.alloc o) none := World.grownBy_alloc _ _ _
  ⟨h.ram.more hg (fun j hj => hj.imp id (fun e => by subst e; exact ⟨Nat.le_refl _, by rw [World.size_alloc]; omega⟩)), h.ok.keep (fun s hs => hg.block s (h.ok.2.1 s hs) (by simp)) hg.size, fun s hs => Or.inl (h.sub s hs)⟩
theorem Ram5.less {w : World} {K K' : Nat → Prop} {S : List Nat} {rb n : Nat} {has : Int → Bool} {F : Int} {M : Int → Int} (h : Ram5 w K S rb has F M n) (hK : ∀ j, K' j → K j) (hS : ∀ s, s ∈ S → K' s) : Ram5 w K' S rb has F M n := by
  obtain ⟨⟨mb, S', pg, hr, h1, h2, h3⟩, ok, _⟩ := h
  exact ⟨⟨mb, S', pg, hr, fun e => h1 (hK _ e), fun k b e q => h2 k b e (hK _ q), fun j hj => h3 j (hK j hj)⟩, ok, hS⟩
theorem Ram5.next {w w' : World} {K : Nat → Prop} {S : List Nat} {rb n m : Nat} {has : Int → Bool} {F : Int} {M M' : Int → Int} (h : Ram5 w K S rb has F M n) (hr : IsRamK w' K rb has F M' m) (hk : Kept K w w') : Ram5 w' K S rb has F M' m :=
  ⟨hr, h.ok.keep (fun s hs => hk.block s (h.sub s hs)) hk.size, h.sub⟩
theorem Ram5.poke {w w' : World} {K : Nat → Prop} {S : List Nat} {rb n m : Nat} {has : Int → Bool} {F : Int} {M : Int → Int} (h : Ram5 w K S rb has F M n) (hg : w.grownBy w' (some m)) (hm : K m) (hS : m ∉ S) : Ram5 w' K S rb has F M n := by
  have h2 := (h.ram.toS h.ok).poke hg (fun f e => by cases e; exact ⟨hm, hS⟩)
  have h3 := h2.back (fun j hj => hj) h.sub (fun j hj => Nat.lt_of_lt_of_le (h.ram.dom j hj) hg.size)
  exact ⟨h3.1, h2.choose_spec.choose_spec.1, h.sub⟩
structure Play (w W : World) (K : Nat → Prop) (S : List Nat) (rb : Nat) (F : Int) (hs : List (Int × Int)) (g cap mbx xb : Nat) (M M2 : Int → Int) (n m : Nat) : Prop where
  ram : Ram5 W K S rb (hasH F hs) F M n
  mem : BMem W mbx m M2
  km : K mbx
  kx : K xb
  kg : K g
  kw : ∀ j, j < w.heap.size → K j
  ns : mbx ∉ S
  box : W.heap[xb]? = some (.cells #[.int .i64 F, .slice (some ⟨g, 0, none⟩) hs.length cap, .map (some mbx)] 28 (0, 0))
  ho : HolesAt W g hs
  lg : g < W.heap.size
  bel : Below w.heap.size w W
  nx : xb ≠ mbx
  ng : g ≠ mbx
  nw : w.heap.size ≤ mbx
theorem below_g0 {W W' : World} (h : Below W.heap.size W W') : W.grownBy W' none := ⟨h.os, h.tape, h.output, h.size, fun j hj _ => h.block j hj⟩
theorem blk_lt2 {w : World} {b : Nat} {o : Obj} (h : w.heap[b]? = some o) : b < w.heap.size := (Array.getElem?_eq_some_iff.1 h).1
theorem BMem.blk {w w' : World} {mb n : Nat} {B : Int → Int} (h : BMem w mb n B) (hb : w'.heap[mb]? = w.heap[mb]?) : BMem w' mb n B := by
  obtain ⟨D, ⟨es, clock, h1, F, hs, hD⟩, h2⟩ := h
  exact ⟨D, ⟨es, clock, hb.trans h1, F, hs, hD⟩, h2⟩
theorem Play.grow {w W W' : World} {K : Nat → Prop} {S : List Nat} {rb : Nat} {F : Int} {hs : List (Int × Int)} {g cap mbx xb : Nat} {M M2 : Int → Int} {n m : Nat} (h : Play w W K S rb F hs g cap mbx xb M M2 n m) (hg : W.grownBy W' none) : Play w W' K S rb F hs g cap mbx xb M M2 n m where
  ram := h.ram.grow hg
  mem := h.mem.kept hg (by simp)
  km := h.km
  kx := h.kx
  kg := h.kg
  kw := h.kw
  ns := h.ns
  box := (hg.block xb (blk_lt2 h.box) (by simp)).trans h.box
  ho := h.ho.kept (hg.block g h.lg (by simp))
  lg := Nat.lt_of_lt_of_le h.lg hg.size
  bel := h.bel.trans ⟨hg.os, hg.tape, hg.output, hg.size, fun k hk => hg.block k (Nat.lt_of_lt_of_le hk h.bel.size) (by simp)⟩
  nx := h.nx
  ng := h.ng
  nw := h.nw
theorem Play.add {w W : World} {K : Nat → Prop} {S : List Nat} {rb : Nat} {F : Int} {hs : List (Int × Int)} {g cap mbx xb : Nat} {M M2 : Int → Int} {n m : Nat} (h : Play w W K S rb F hs g cap mbx xb M M2 n m) (o : Obj) : Play w (W.alloc o) (fun j => K j ∨ j = W.heap.size) S rb F hs g cap mbx xb M M2 n m :=
  have k := h.grow (World.grownBy_alloc W o none)
  { ram := h.ram.add o, mem := k.mem, km := Or.inl h.km, kx := Or.inl h.kx, kg := Or.inl h.kg, kw := fun j hj => Or.inl (h.kw j hj), ns := h.ns, box := k.box, ho := k.ho, lg := k.lg, bel := k.bel, nx := h.nx, ng := h.ng, nw := h.nw }
theorem Play.next {w W W' : World} {K : Nat → Prop} {S : List Nat} {rb : Nat} {F : Int} {hs : List (Int × Int)} {g cap mbx xb : Nat} {M M2 : Int → Int} {n m : Nat} {M' : Int → Int} {n' : Nat} (h : Play w W K S rb F hs g cap mbx xb M M2 n m) (hr : IsRamK W' K rb (hasH F hs) F M' n') (hk : Kept K W W') : Play w W' K S rb F hs g cap mbx xb M' M2 n' m where
  ram := h.ram.next hr hk
  mem := h.mem.blk (hk.block _ h.km)
  km := h.km
  kx := h.kx
  kg := h.kg
  kw := h.kw
  ns := h.ns
  box := (hk.block xb h.kx).trans h.box
  ho := h.ho.kept (hk.block g h.kg)
  lg := Nat.lt_of_lt_of_le h.lg hk.size
  bel := h.bel.trans (hk.below h.kw)
  nx := h.nx
  ng := h.ng
  nw := h.nw
theorem Play.poke {w W W' : World} {K : Nat → Prop} {S : List Nat} {rb : Nat} {F : Int} {hs : List (Int × Int)} {g cap mbx xb : Nat} {M M2 : Int → Int} {n m : Nat} {M2' : Int → Int} {m' : Nat} (h : Play w W K S rb F hs g cap mbx xb M M2 n m) (hg : W.grownBy W' (some mbx)) (hm : BMem W' mbx m' M2') : Play w W' K S rb F hs g cap mbx xb M M2' n m' where
  ram := h.ram.poke hg h.km h.ns
  mem := hm
  km := h.km
  kx := h.kx
  kg := h.kg
  kw := h.kw
  ns := h.ns
  box := (hg.block xb (blk_lt2 h.box) (fun e => h.nx (Option.some.inj e))).trans h.box
  ho := h.ho.kept (hg.block g h.lg (fun e => h.ng (Option.some.inj e)))
  lg := Nat.lt_of_lt_of_le h.lg hg.size
  bel := h.bel.trans ⟨hg.os, hg.tape, hg.output, hg.size, fun k hk => hg.block k (Nat.lt_of_lt_of_le hk h.bel.size) (fun e => by have := Option.some.inj e; have := h.nw; omega)⟩
  nx := h.nx
  ng := h.ng
  nw := h.nw
theorem Play.drew {w W : World} {K : Nat → Prop} {S : List Nat} {rb : Nat} {F : Int} {hs : List (Int × Int)} {g cap mbx xb : Nat} {M M2 : Int → Int} {n m : Nat} (h : Play w W K S rb F hs g cap mbx xb M M2 n m) : Play w W.drew K S rb F hs g cap mbx xb M M2 n m := h.grow ⟨rfl, rfl, rfl, Nat.le_refl _, fun _ _ _ => rfl⟩
theorem Play.more {w W : World} {K : Nat → Prop} {S : List Nat} {rb : Nat} {F : Int} {hs : List (Int × Int)} {g cap mbx xb : Nat} {M M2 : Int → Int} {n m : Nat} {n' m' : Nat} (h : Play w W K S rb F hs g cap mbx xb M M2 n m) (hn : n ≤ n') (hm : m ≤ m') : Play w W K S rb F hs g cap mbx xb M M2 n' m' :=
  { h with ram := h.ram.mono hn, mem := h.mem.mono hm }
theorem play_start {w u : World} {B rb : Nat} {F : Int} {hs : List (Int × Int)} {g cap : Nat} {n : Nat} (h : IsRam u B rb (hasH F hs) F (fun _ => 0) n) (hb : Below w.heap.size w u) (hwB : w.heap.size ≤ B) (hgB : g < B) (ho : HolesAt u g hs) :
    ∃ (K : Nat → Prop) (S : List Nat), Play w ((u.alloc (.map #[] 0)).alloc (.cells #[.int .i64 F, .slice (some ⟨g, 0, none⟩) hs.length cap, .map (some u.heap.size)] 28)) K S rb F hs g cap u.heap.size (u.heap.size + 1) (fun _ => 0) (fun _ => 0) n 0 := by
  have hs' := h.size
  obtain ⟨K, S, k1, r⟩ := Ram5.ofRam h
  have r2 := (r.add (.map #[] 0)).add (.cells #[.int .i64 F, .slice (some ⟨g, 0, none⟩) hs.length cap, .map (some u.heap.size)] 28)
  have sz : (u.alloc (.map #[] 0)).heap.size = u.heap.size + 1 := World.size_alloc ..
  have g1 : u.grownBy (u.alloc (.map #[] 0)) none := World.grownBy_alloc _ _ _
  have g2 : (u.alloc (.map #[] 0)).grownBy ((u.alloc (.map #[] 0)).alloc (.cells #[.int .i64 F, .slice (some ⟨g, 0, none⟩) hs.length cap, .map (some u.heap.size)] 28)) none := World.grownBy_alloc _ _ _
  have g3 := grown_trans g1 g2
  refine ⟨_, S, { ram := r2, mem := (BMem.made u).kept g2 (by simp), km := Or.inl (Or.inr rfl), kx := Or.inr sz.symm, kg := Or.inl (Or.inl (k1 g hgB)), kw := fun j hj => Or.inl (Or.inl (k1 j (by omega))), ns := fun e => ?_, box := ?_, ho := ho.kept (g3.block g (by omega) (by simp)), lg := ?_, bel := ?_, nx := by omega, ng := by omega, nw := by omega }⟩
  · have := r.ok.2.1 _ e; omega
  · have := own_new (u.alloc (.map #[] 0)) (.cells #[.int .i64 F, .slice (some ⟨g, 0, none⟩) hs.length cap, .map (some u.heap.size)] 28)
    rw [sz] at this
    exact this
  · have := g3.size; omega
  · exact hb.trans ⟨g3.os, g3.tape, g3.output, g3.size, fun k hk => g3.block k (Nat.lt_of_lt_of_le hk hb.size) (by simp)⟩
end Go.Proofs.YtaebihgegiddnaaDoor
