/- The memory and beside it the document's. -/
import Derived.Test.YtdfalincdgdlcaaM8
namespace Go.Proofs.Ytdfalincdgdlcaa
open Go.ChangeShapes Go.WideShapes Go.ChangeAt Go.RowKit Go.Maps
set_option linter.unusedSimpArgs false
set_option linter.unusedVariables false

structure Play (w W : World) (K : Nat → Prop) (S : List Nat) (rb : Nat) (F : Int) (hs : List (Int × Int)) (g cap mbx xb : Nat) (M M2 : Int → Int) (n m : Nat) : Prop where
  ram : Ram5 W K S rb (hasH F hs) F M n
  mem : BMem W mbx m M2
  km : K mbx
  kx : K xb
  kg : K g
  kw : ∀ j, j < w.heap.size → K j
  ns : mbx ∉ S
  box : W.heap[xb]? = some (.cells #[.int .i64 F, .slice (some ⟨g, 0, none⟩) hs.length cap, .map (some mbx)] 33 (0, 0))
  ho : HolesAt W g hs
  lg : g < W.heap.size
  bel : Below w.heap.size w W
  nx : xb ≠ mbx
  ng : g ≠ mbx
  nw : w.heap.size ≤ mbx
theorem below_g0 {W W' : World} (h : Below W.heap.size W W') : W.grownBy W' none := ⟨h.os, h.tape, h.output, h.size, fun j hj _ => h.block j hj⟩
theorem blk_lt2 {w : World} {b : Nat} {o : Obj} (h : w.heap[b]? = some o) : b < w.heap.size := (Array.getElem?_eq_some_iff.1 h).1
theorem BMem.blk {w w' : World} {mb n : Nat} {B : Int → Int} (h : BMem w mb n B) (hb : w'.heap[mb]? = w.heap[mb]?) : BMem w' mb n B := by
  obtain ⟨D, ⟨es, clock, h1, F, hs, hD⟩, h2⟩ := h
  exact ⟨D, ⟨es, clock, hb.trans h1, F, hs, hD⟩, h2⟩
theorem Play.grow {w W W' : World} {K : Nat → Prop} {S : List Nat} {rb : Nat} {F : Int} {hs : List (Int × Int)} {g cap mbx xb : Nat} {M M2 : Int → Int} {n m : Nat} (h : Play w W K S rb F hs g cap mbx xb M M2 n m) (hg : W.grownBy W' none) : Play w W' K S rb F hs g cap mbx xb M M2 n m where
  ram := h.ram.grow hg
  mem := h.mem.kept hg (by simp)
  km := h.km
  kx := h.kx
  kg := h.kg
  kw := h.kw
  ns := h.ns
  box := (hg.block xb (blk_lt2 h.box) (by simp)).trans h.box
  ho := h.ho.kept (hg.block g h.lg (by simp))
  lg := Nat.lt_of_lt_of_le h.lg hg.size
  bel := h.bel.trans ⟨hg.os, hg.tape, hg.output, hg.size, fun k hk => hg.block k (Nat.lt_of_lt_of_le hk h.bel.size) (by simp)⟩
  nx := h.nx
  ng := h.ng
  nw := h.nw
theorem Play.add {w W : World} {K : Nat → Prop} {S : List Nat} {rb : Nat} {F : Int} {hs : List (Int × Int)} {g cap mbx xb : Nat} {M M2 : Int → Int} {n m : Nat} (h : Play w W K S rb F hs g cap mbx xb M M2 n m) (o : Obj) : Play w (W.alloc o) (fun j => K j ∨ j = W.heap.size) S rb F hs g cap mbx xb M M2 n m :=
  have k := h.grow (World.grownBy_alloc W o none)
  { ram := h.ram.add o, mem := k.mem, km := Or.inl h.km, kx := Or.inl h.kx, kg := Or.inl h.kg, kw := fun j hj => Or.inl (h.kw j hj), ns := h.ns, box := k.box, ho := k.ho, lg := k.lg, bel := k.bel, nx := h.nx, ng := h.ng, nw := h.nw }
theorem Play.next {w W W' : World} {K : Nat → Prop} {S : List Nat} {rb : Nat} {F : Int} {hs : List (Int × Int)} {g cap mbx xb : Nat} {M M2 : Int → Int} {n m : Nat} {M' : Int → Int} {n' : Nat} (h : Play w W K S rb F hs g cap mbx xb M M2 n m) (hr : IsRamK W' K rb (hasH F hs) F M' n') (hk : Kept K W W') : Play w W' K S rb F hs g cap mbx xb M' M2 n' m where
  ram := h.ram.next hr hk
  mem := h.mem.blk (hk.block _ h.km)
  km := h.km
  kx := h.kx
  kg := h.kg
  kw := h.kw
  ns := h.ns
  box := (hk.block xb h.kx).trans h.box
  ho := h.ho.kept (hk.block g h.kg)
  lg := Nat.lt_of_lt_of_le h.lg hk.size
  bel := h.bel.trans (hk.below h.kw)
  nx := h.nx
  ng := h.ng
  nw := h.nw
theorem Play.poke {w W W' : World} {K : Nat → Prop} {S : List Nat} {rb : Nat} {F : Int} {hs : List (Int × Int)} {g cap mbx xb : Nat} {M M2 : Int → Int} {n m : Nat} {M2' : Int → Int} {m' : Nat} (h : Play w W K S rb F hs g cap mbx xb M M2 n m) (hg : W.grownBy W' (some mbx)) (hm : BMem W' mbx m' M2') : Play w W' K S rb F hs g cap mbx xb M M2' n m' where
  ram := h.ram.poke hg h.km h.ns
  mem := hm
  km := h.km
  kx := h.kx
  kg := h.kg
  kw := h.kw
  ns := h.ns
  box := (hg.block xb (blk_lt2 h.box) (fun e => h.nx (Option.some.inj e))).trans h.box
  ho := h.ho.kept (hg.block g h.lg (fun e => h.ng (Option.some.inj e)))
  lg := Nat.lt_of_lt_of_le h.lg hg.size
  bel := h.bel.trans ⟨hg.os, hg.tape, hg.output, hg.size, fun k hk => hg.block k (Nat.lt_of_lt_of_le hk h.bel.size) (fun e => by have := Option.some.inj e; have := h.nw; omega)⟩
  nx := h.nx
  ng := h.ng
  nw := h.nw
theorem Play.drew {w W : World} {K : Nat → Prop} {S : List Nat} {rb : Nat} {F : Int} {hs : List (Int × Int)} {g cap mbx xb : Nat} {M M2 : Int → Int} {n m : Nat} (h : Play w W K S rb F hs g cap mbx xb M M2 n m) : Play w W.drew K S rb F hs g cap mbx xb M M2 n m := h.grow ⟨rfl, rfl, rfl, Nat.le_refl _, fun _ _ _ => rfl⟩
theorem Play.more {w W : World} {K : Nat → Prop} {S : List Nat} {rb : Nat} {F : Int} {hs : List (Int × Int)} {g cap mbx xb : Nat} {M M2 : Int → Int} {n m : Nat} {n' m' : Nat} (h : Play w W K S rb F hs g cap mbx xb M M2 n m) (hn : n ≤ n') (hm : m ≤ m') : Play w W K S rb F hs g cap mbx xb M M2 n' m' :=
  { h with ram := h.ram.mono hn, mem := h.mem.mono hm }
theorem play_start {w u : World} {B rb : Nat} {F : Int} {hs : List (Int × Int)} {g cap : Nat} {n : Nat} (h : IsRam u B rb (hasH F hs) F (fun _ => 0) n) (hb : Below w.heap.size w u) (hwB : w.heap.size ≤ B) (hgB : g < B) (ho : HolesAt u g hs) :
    ∃ (K : Nat → Prop) (S : List Nat), Play w ((u.alloc (.map #[] 0)).alloc (.cells #[.int .i64 F, .slice (some ⟨g, 0, none⟩) hs.length cap, .map (some u.heap.size)] 33)) K S rb F hs g cap u.heap.size (u.heap.size + 1) (fun _ => 0) (fun _ => 0) n 0 := by
  have hs' := h.size
  obtain ⟨K, S, k1, r⟩ := Ram5.ofRam h
  have r2 := (r.add (.map #[] 0)).add (.cells #[.int .i64 F, .slice (some ⟨g, 0, none⟩) hs.length cap, .map (some u.heap.size)] 33)
  have sz : (u.alloc (.map #[] 0)).heap.size = u.heap.size + 1 := World.size_alloc ..
  have g1 : u.grownBy (u.alloc (.map #[] 0)) none := World.grownBy_alloc _ _ _
  have g2 : (u.alloc (.map #[] 0)).grownBy ((u.alloc (.map #[] 0)).alloc (.cells #[.int .i64 F, .slice (some ⟨g, 0, none⟩) hs.length cap, .map (some u.heap.size)] 33)) none := World.grownBy_alloc _ _ _
  have g3 := grown_trans g1 g2
  refine ⟨_, S, { ram := r2, mem := (BMem.made u).kept g2 (by simp), km := Or.inl (Or.inr rfl), kx := Or.inr sz.symm, kg := Or.inl (Or.inl (k1 g hgB)), kw := fun j hj => Or.inl (Or.inl (k1 j (by omega))), ns := fun e => ?_, box := ?_, ho := ho.kept (g3.block g (by omega) (by simp)), lg := ?_, bel := ?_, nx := by omega, ng := by omega, nw := by omega }⟩
  · have := r.ok.2.1 _ e; omega
  · have := own_new (u.alloc (.map #[] 0)) (.cells #[.int .i64 F, .slice (some ⟨g, 0, none⟩) hs.length cap, .map (some u.heap.size)] 33)
    rw [sz] at this
    exact this
  · have := g3.size; omega
  · exact hb.trans ⟨g3.os, g3.tape, g3.output, g3.size, fun k hk => g3.block k (Nat.lt_of_lt_of_le hk hb.size) (by simp)⟩
end Go.Proofs.Ytdfalincdgdlcaa
