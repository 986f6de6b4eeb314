/- Walk, where an entry or the rights refuse it. -/
import Derived.Test.YtaebihgegiddnaaDoorW10
import Derived.Test.YtaebihgegiddnaaDoorW6
namespace Go.Proofs.YtaebihgegiddnaaDoor
open Go.ChangeShapes Go.WideShapes Go.ChangeAt Go.RowKit Go.Maps
set_option linter.unusedSimpArgs false
set_option linter.unusedVariables false
set_option maxRecDepth 8000

theorem box4 (w : World) (a b c d : Obj) : ((((w.alloc a).alloc b).alloc c).alloc d).heap[w.heap.size]? = some a :=
  ((Go.Joins.below_alloc1 (((w.alloc a).alloc b).alloc c) d).block _ (by simp; omega)).trans (own3a w a b c)
theorem sz4 (w : World) (a b c d : Obj) : w.heap.size < ((((w.alloc a).alloc b).alloc c).alloc d).heap.size := by simp; omega
theorem szA (w : World) (a : Obj) : w.heap.size < (w.alloc a).heap.size := by simp
theorem old1 {w : World} {b : Nat} (h : b < w.heap.size) (a : Obj) : b < (w.alloc a).heap.size := by simp; omega
/-- a block's cells over a call that makes memory behind a new block -/
theorem carry1 {w w' : World} {o : Obj} {b i : Nat} {v : Value} (hb : Below (w.alloc o).heap.size (w.alloc o) w') (l : b < w.heap.size) (h : w.cell? ⟨b, i, none⟩ = some v) : w'.cell? ⟨b, i, none⟩ = some v :=
  (hb.cell (p := ⟨b, i, none⟩) (old1 l o)).trans ((World.cell?_alloc_lt _ _ _ l).trans h)
theorem carry0 {w w' : World} {b i : Nat} {v : Value} (hb : Below w.heap.size w w') (l : b < w.heap.size) (h : w.cell? ⟨b, i, none⟩ = some v) : w'.cell? ⟨b, i, none⟩ = some v :=
  (hb.cell (p := ⟨b, i, none⟩) l).trans h
theorem carryN {w w' : World} {C : Array Value} {t : TypeId} {i : Nat} (hb : Below (w.alloc (.cells C t)).heap.size (w.alloc (.cells C t)) w') : w'.cell? ⟨w.heap.size, i, none⟩ = C[i]? :=
  (hb.cell (p := ⟨w.heap.size, i, none⟩) (szA w _)).trans (Go.Joins.cell_of_block (own1 w _) i)
set_option maxHeartbeats 1000000 in
theorem walk_panic {rb : Nat} (root addr p0 p1 p2 p3 po cd : Int) (x u f : Bool)
    (hc : Hid (∀ w : World, Calls Tryd.prog 15 #[.int .u64 addr] w fun e w' => e = .returned (.bool true) ∧ w' = w))
    (sp : Hid (∀ w : World, Calls Tryd.prog 19 #[.int .u64 addr] w fun e w' => e = .returned (.tuple #[.agg #[.int .i64 p0, .int .i64 p1, .int .i64 p2, .int .i64 p3], .int .i64 po]) ∧ Below w.heap.size w w'))
    (co : Hid (∀ w : World, Calls Tryd.prog 20 #[.agg #[.bool x, .bool u, .bool f]] w fun e w' => e = .returned (.int .i64 cd) ∧ Below w.heap.size w w')) (w : World)
    (hh : Hid (∀ W : World, Below w.heap.size w W → Calls Tryd.prog 18 #[.pointer (some ⟨rb, 0, none⟩), .int .i64 root] W fun e w' => e = .returned (.bool true) ∧ Below W.heap.size W w'))
    (ad' cd' er' : Int) (fo : Hid (∀ W : World, Below w.heap.size w W → Calls Tryd.prog 21 #[.pointer (some ⟨rb, 0, none⟩), .int .i64 root, .agg #[.int .i64 p0, .int .i64 p1, .int .i64 p2, .int .i64 p3], .agg #[.int .u64 addr, .int .i64 cd]] W fun e w' => e = .panicked [refv ad' cd' er'] ∧ Below W.heap.size W w')) :
    Calls Tryd.prog 7 #[.pointer (some ⟨rb, 0, none⟩), .int .i64 root, .int .u64 addr, .agg #[.bool x, .bool u, .bool f]] w fun e w' => e = .returned (.tuple #[.agg zfound.toArray, .agg #[.int .u64 ad', .int .i64 cd'], .int .i64 er']) ∧ Below w.heap.size w w' := by
  have hmf : ∀ (fn : Fn) (first cap : Array Value) (w : World), (Instr.makeFunc fn first cap).run Tryd.prog w = .ok (.func fn first cap) w := fun _ _ _ _ => rfl
  go_enter_defers Tryd.func7, Tryd.ntmps7
  go_wp2_with fail
  refine (hc.out _).mono ?_
  rintro e w1 ⟨rfl, rfl⟩
  go_wp2_with fail
  refine (hh.out _ (Door.made w _).b).mono ?_
  rintro e w2 ⟨rfl, hb⟩
  have D2 : Hid (Door w w2) := (Door.made w _).next hb
  have a2_0 : w2.cell? ⟨w.heap.size, 0, none⟩ = some (.bool x) := carry0 hb (sz4 w _ _ _ _) (Go.Joins.cell_of_block (box4 w _ _ _ _) 0)
  have a2_1 : w2.cell? ⟨w.heap.size, 1, none⟩ = some (.bool u) := carry0 hb (sz4 w _ _ _ _) (Go.Joins.cell_of_block (box4 w _ _ _ _) 1)
  have a2_2 : w2.cell? ⟨w.heap.size, 2, none⟩ = some (.bool f) := carry0 hb (sz4 w _ _ _ _) (Go.Joins.cell_of_block (box4 w _ _ _ _) 2)
  have za2 : w.heap.size < w2.heap.size := Nat.lt_of_lt_of_le (sz4 w _ _ _ _) hb.size
  clear hb
  go_wp2_with fail
  refine (sp.out _).mono ?_
  rintro e w3 ⟨rfl, hb⟩
  have D3 : Hid (Door w w3) := D2.out.next hb
  have a3_0 : w3.cell? ⟨w.heap.size, 0, none⟩ = some (.bool x) := carry0 hb za2 a2_0
  have a3_1 : w3.cell? ⟨w.heap.size, 1, none⟩ = some (.bool u) := carry0 hb za2 a2_1
  have a3_2 : w3.cell? ⟨w.heap.size, 2, none⟩ = some (.bool f) := carry0 hb za2 a2_2
  have za3 : w.heap.size < w3.heap.size := Nat.lt_of_lt_of_le za2 hb.size
  clear hb D2 a2_0 a2_1 a2_2 za2
  go_wp2_with fail
  refine (co.out _).mono ?_
  rintro e w4 ⟨rfl, hb⟩
  have D4 : Hid (Door w w4) := (D3.out.next (Go.Joins.below_alloc1 _ _)).next hb
  have a4_0 : w4.cell? ⟨w.heap.size, 0, none⟩ = some (.bool x) := carry1 hb za3 a3_0
  have a4_1 : w4.cell? ⟨w.heap.size, 1, none⟩ = some (.bool u) := carry1 hb za3 a3_1
  have a4_2 : w4.cell? ⟨w.heap.size, 2, none⟩ = some (.bool f) := carry1 hb za3 a3_2
  have q4_0 : w4.cell? ⟨w3.heap.size, 0, none⟩ = some (.int .i64 p0) := carryN hb
  have q4_1 : w4.cell? ⟨w3.heap.size, 1, none⟩ = some (.int .i64 p1) := carryN hb
  have q4_2 : w4.cell? ⟨w3.heap.size, 2, none⟩ = some (.int .i64 p2) := carryN hb
  have q4_3 : w4.cell? ⟨w3.heap.size, 3, none⟩ = some (.int .i64 p3) := carryN hb
  have za4 : w.heap.size < w4.heap.size := Nat.lt_of_lt_of_le (old1 za3 _) hb.size
  have zq4 : w3.heap.size < w4.heap.size := Nat.lt_of_lt_of_le (szA _ _) hb.size
  clear hb D3 a3_0 a3_1 a3_2
  go_wp2_with fail
  refine (fo.out _ (D4.out.next (Go.Joins.below_alloc1 _ _)).b).mono ?_
  rintro e w5 ⟨rfl, hb⟩
  exact walk_door w _ ad' cd' er' _ ((D4.out.next (Go.Joins.below_alloc1 _ _)).next hb) rfl rfl rfl
set_option maxHeartbeats 1000000 in
theorem walk_refused {rb : Nat} (root addr p0 p1 p2 p3 po cd : Int) (x u f : Bool)
    (hc : Hid (∀ w : World, Calls Tryd.prog 15 #[.int .u64 addr] w fun e w' => e = .returned (.bool true) ∧ w' = w))
    (sp : Hid (∀ w : World, Calls Tryd.prog 19 #[.int .u64 addr] w fun e w' => e = .returned (.tuple #[.agg #[.int .i64 p0, .int .i64 p1, .int .i64 p2, .int .i64 p3], .int .i64 po]) ∧ Below w.heap.size w w'))
    (co : Hid (∀ w : World, Calls Tryd.prog 20 #[.agg #[.bool x, .bool u, .bool f]] w fun e w' => e = .returned (.int .i64 cd) ∧ Below w.heap.size w w')) (w : World)
    (hh : Hid (∀ W : World, Below w.heap.size w W → Calls Tryd.prog 18 #[.pointer (some ⟨rb, 0, none⟩), .int .i64 root] W fun e w' => e = .returned (.bool true) ∧ Below W.heap.size W w'))
    (n : Nat) (xs : List Value) (pw pu px : Bool) (fo : Hid (∀ W : World, Below w.heap.size w W → Calls Tryd.prog 21 #[.pointer (some ⟨rb, 0, none⟩), .int .i64 root, .agg #[.int .i64 p0, .int .i64 p1, .int .i64 p2, .int .i64 p3], .agg #[.int .u64 addr, .int .i64 cd]] W fun e w' => ∃ v, e = .returned v ∧ Way w' (W.heap.size + 2) v n xs ∧ Below W.heap.size W w'))
    (cm : Hid (∀ (W : World) (base : Nat) (v : Value), Way W base v n xs → Calls Tryd.prog 22 #[v] W fun e w' => e = .returned (.agg #[.bool pw, .bool pu, .bool px]) ∧ Below W.heap.size W w'))
    (ma : Hid (∀ W : World, Calls Tryd.prog 14 #[.agg #[.bool pw, .bool pu, .bool px], .agg #[.bool x, .bool u, .bool f]] W fun e w' => e = .returned (.bool false) ∧ Below W.heap.size W w'))
    (c1 : Int) (re : Hid (∀ W : World, Calls Tryd.prog 23 #[.agg #[.int .u64 addr, .int .i64 cd], .int .i64 1] W fun e w' => e = .panicked [refv addr c1 9] ∧ Below W.heap.size W w')) :
    Calls Tryd.prog 7 #[.pointer (some ⟨rb, 0, none⟩), .int .i64 root, .int .u64 addr, .agg #[.bool x, .bool u, .bool f]] w fun e w' => e = .returned (.tuple #[.agg zfound.toArray, .agg #[.int .u64 addr, .int .i64 c1], .int .i64 9]) ∧ Below w.heap.size w w' := by
  have hmf : ∀ (fn : Fn) (first cap : Array Value) (w : World), (Instr.makeFunc fn first cap).run Tryd.prog w = .ok (.func fn first cap) w := fun _ _ _ _ => rfl
  go_enter_defers Tryd.func7, Tryd.ntmps7
  go_wp2_with fail
  refine (hc.out _).mono ?_
  rintro e w1 ⟨rfl, rfl⟩
  go_wp2_with fail
  refine (hh.out _ (Door.made w _).b).mono ?_
  rintro e w2 ⟨rfl, hb⟩
  have D2 : Hid (Door w w2) := (Door.made w _).next hb
  have a2_0 : w2.cell? ⟨w.heap.size, 0, none⟩ = some (.bool x) := carry0 hb (sz4 w _ _ _ _) (Go.Joins.cell_of_block (box4 w _ _ _ _) 0)
  have a2_1 : w2.cell? ⟨w.heap.size, 1, none⟩ = some (.bool u) := carry0 hb (sz4 w _ _ _ _) (Go.Joins.cell_of_block (box4 w _ _ _ _) 1)
  have a2_2 : w2.cell? ⟨w.heap.size, 2, none⟩ = some (.bool f) := carry0 hb (sz4 w _ _ _ _) (Go.Joins.cell_of_block (box4 w _ _ _ _) 2)
  have za2 : w.heap.size < w2.heap.size := Nat.lt_of_lt_of_le (sz4 w _ _ _ _) hb.size
  clear hb
  go_wp2_with fail
  refine (sp.out _).mono ?_
  rintro e w3 ⟨rfl, hb⟩
  have D3 : Hid (Door w w3) := D2.out.next hb
  have a3_0 : w3.cell? ⟨w.heap.size, 0, none⟩ = some (.bool x) := carry0 hb za2 a2_0
  have a3_1 : w3.cell? ⟨w.heap.size, 1, none⟩ = some (.bool u) := carry0 hb za2 a2_1
  have a3_2 : w3.cell? ⟨w.heap.size, 2, none⟩ = some (.bool f) := carry0 hb za2 a2_2
  have za3 : w.heap.size < w3.heap.size := Nat.lt_of_lt_of_le za2 hb.size
  clear hb D2 a2_0 a2_1 a2_2 za2
  go_wp2_with fail
  refine (co.out _).mono ?_
  rintro e w4 ⟨rfl, hb⟩
  have D4 : Hid (Door w w4) := (D3.out.next (Go.Joins.below_alloc1 _ _)).next hb
  have a4_0 : w4.cell? ⟨w.heap.size, 0, none⟩ = some (.bool x) := carry1 hb za3 a3_0
  have a4_1 : w4.cell? ⟨w.heap.size, 1, none⟩ = some (.bool u) := carry1 hb za3 a3_1
  have a4_2 : w4.cell? ⟨w.heap.size, 2, none⟩ = some (.bool f) := carry1 hb za3 a3_2
  have q4_0 : w4.cell? ⟨w3.heap.size, 0, none⟩ = some (.int .i64 p0) := carryN hb
  have q4_1 : w4.cell? ⟨w3.heap.size, 1, none⟩ = some (.int .i64 p1) := carryN hb
  have q4_2 : w4.cell? ⟨w3.heap.size, 2, none⟩ = some (.int .i64 p2) := carryN hb
  have q4_3 : w4.cell? ⟨w3.heap.size, 3, none⟩ = some (.int .i64 p3) := carryN hb
  have za4 : w.heap.size < w4.heap.size := Nat.lt_of_lt_of_le (old1 za3 _) hb.size
  have zq4 : w3.heap.size < w4.heap.size := Nat.lt_of_lt_of_le (szA _ _) hb.size
  clear hb D3 a3_0 a3_1 a3_2
  go_wp2_with fail
  refine (fo.out _ (D4.out.next (Go.Joins.below_alloc1 _ _)).b).mono ?_
  rintro e w5 ⟨v, rfl, hway, hb⟩
  have D5 : Hid (Door w w5) := (D4.out.next (Go.Joins.below_alloc1 _ _)).next hb
  have WY5 : Hid (Way w5 (w4.heap.size + 1 + 2) v n xs) := by have := hway; rwa [World.size_alloc] at this
  have a5_0 : w5.cell? ⟨w.heap.size, 0, none⟩ = some (.bool x) := carry1 hb za4 a4_0
  have a5_1 : w5.cell? ⟨w.heap.size, 1, none⟩ = some (.bool u) := carry1 hb za4 a4_1
  have a5_2 : w5.cell? ⟨w.heap.size, 2, none⟩ = some (.bool f) := carry1 hb za4 a4_2
  have q5_0 : w5.cell? ⟨w3.heap.size, 0, none⟩ = some (.int .i64 p0) := carry1 hb zq4 q4_0
  have q5_1 : w5.cell? ⟨w3.heap.size, 1, none⟩ = some (.int .i64 p1) := carry1 hb zq4 q4_1
  have q5_2 : w5.cell? ⟨w3.heap.size, 2, none⟩ = some (.int .i64 p2) := carry1 hb zq4 q4_2
  have q5_3 : w5.cell? ⟨w3.heap.size, 3, none⟩ = some (.int .i64 p3) := carry1 hb zq4 q4_3
  have m5_0 : w5.cell? ⟨w4.heap.size, 0, none⟩ = some (.int .u64 addr) := carryN hb
  have m5_1 : w5.cell? ⟨w4.heap.size, 1, none⟩ = some (.int .i64 cd) := carryN hb
  have za5 : w.heap.size < w5.heap.size := Nat.lt_of_lt_of_le (old1 za4 _) hb.size
  have zq5 : w3.heap.size < w5.heap.size := Nat.lt_of_lt_of_le (old1 zq4 _) hb.size
  have zm5 : w4.heap.size < w5.heap.size := Nat.lt_of_lt_of_le (szA _ _) hb.size
  clear hb hway D4 a4_0 a4_1 a4_2 q4_0 q4_1 q4_2 q4_3 za4 zq4
  go_wp2_with fail
  refine (cm.out _ _ _ WY5.out).mono ?_
  rintro e w6 ⟨rfl, hb⟩
  have D6 : Hid (Door w w6) := D5.out.next hb
  have WY6 : Hid (Way w6 (w4.heap.size + 1 + 2) v n xs) := WY5.out.keep hb
  have a6_0 : w6.cell? ⟨w.heap.size, 0, none⟩ = some (.bool x) := carry0 hb za5 a5_0
  have a6_1 : w6.cell? ⟨w.heap.size, 1, none⟩ = some (.bool u) := carry0 hb za5 a5_1
  have a6_2 : w6.cell? ⟨w.heap.size, 2, none⟩ = some (.bool f) := carry0 hb za5 a5_2
  have q6_0 : w6.cell? ⟨w3.heap.size, 0, none⟩ = some (.int .i64 p0) := carry0 hb zq5 q5_0
  have q6_1 : w6.cell? ⟨w3.heap.size, 1, none⟩ = some (.int .i64 p1) := carry0 hb zq5 q5_1
  have q6_2 : w6.cell? ⟨w3.heap.size, 2, none⟩ = some (.int .i64 p2) := carry0 hb zq5 q5_2
  have q6_3 : w6.cell? ⟨w3.heap.size, 3, none⟩ = some (.int .i64 p3) := carry0 hb zq5 q5_3
  have m6_0 : w6.cell? ⟨w4.heap.size, 0, none⟩ = some (.int .u64 addr) := carry0 hb zm5 m5_0
  have m6_1 : w6.cell? ⟨w4.heap.size, 1, none⟩ = some (.int .i64 cd) := carry0 hb zm5 m5_1
  have za6 : w.heap.size < w6.heap.size := Nat.lt_of_lt_of_le za5 hb.size
  have zq6 : w3.heap.size < w6.heap.size := Nat.lt_of_lt_of_le zq5 hb.size
  have zm6 : w4.heap.size < w6.heap.size := Nat.lt_of_lt_of_le zm5 hb.size
  clear hb D5 WY5 a5_0 a5_1 a5_2 q5_0 q5_1 q5_2 q5_3 m5_0 m5_1 za5 zq5 zm5
  go_wp2_with fail
  refine (ma.out _).mono ?_
  rintro e w7 ⟨rfl, hb⟩
  have D7 : Hid (Door w w7) := (D6.out.next (Go.Joins.below_alloc1 _ _)).next hb
  have WY7 : Hid (Way w7 (w4.heap.size + 1 + 2) v n xs) := (WY6.out.keep (Go.Joins.below_alloc1 _ _)).keep hb
  have a7_0 : w7.cell? ⟨w.heap.size, 0, none⟩ = some (.bool x) := carry1 hb za6 a6_0
  have a7_1 : w7.cell? ⟨w.heap.size, 1, none⟩ = some (.bool u) := carry1 hb za6 a6_1
  have a7_2 : w7.cell? ⟨w.heap.size, 2, none⟩ = some (.bool f) := carry1 hb za6 a6_2
  have q7_0 : w7.cell? ⟨w3.heap.size, 0, none⟩ = some (.int .i64 p0) := carry1 hb zq6 q6_0
  have q7_1 : w7.cell? ⟨w3.heap.size, 1, none⟩ = some (.int .i64 p1) := carry1 hb zq6 q6_1
  have q7_2 : w7.cell? ⟨w3.heap.size, 2, none⟩ = some (.int .i64 p2) := carry1 hb zq6 q6_2
  have q7_3 : w7.cell? ⟨w3.heap.size, 3, none⟩ = some (.int .i64 p3) := carry1 hb zq6 q6_3
  have m7_0 : w7.cell? ⟨w4.heap.size, 0, none⟩ = some (.int .u64 addr) := carry1 hb zm6 m6_0
  have m7_1 : w7.cell? ⟨w4.heap.size, 1, none⟩ = some (.int .i64 cd) := carry1 hb zm6 m6_1
  have r7_0 : w7.cell? ⟨w6.heap.size, 0, none⟩ = some (.bool pw) := carryN hb
  have r7_1 : w7.cell? ⟨w6.heap.size, 1, none⟩ = some (.bool pu) := carryN hb
  have r7_2 : w7.cell? ⟨w6.heap.size, 2, none⟩ = some (.bool px) := carryN hb
  have za7 : w.heap.size < w7.heap.size := Nat.lt_of_lt_of_le (old1 za6 _) hb.size
  have zq7 : w3.heap.size < w7.heap.size := Nat.lt_of_lt_of_le (old1 zq6 _) hb.size
  have zm7 : w4.heap.size < w7.heap.size := Nat.lt_of_lt_of_le (old1 zm6 _) hb.size
  have zr7 : w6.heap.size < w7.heap.size := Nat.lt_of_lt_of_le (szA _ _) hb.size
  clear hb D6 WY6 a6_0 a6_1 a6_2 q6_0 q6_1 q6_2 q6_3 m6_0 m6_1 za6 zq6 zm6
  go_wp2_with fail
  refine (re.out _).mono ?_
  rintro e w8 ⟨rfl, hb⟩
  exact walk_door w _ addr c1 9 _ (D7.out.next hb) rfl rfl rfl
end Go.Proofs.YtaebihgegiddnaaDoor
