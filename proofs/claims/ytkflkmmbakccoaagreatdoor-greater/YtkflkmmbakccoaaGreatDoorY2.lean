/- PARTS: K6. -/
import Derived.Test.YtkflkmmbakccoaaGreatDoorY1
import Derived.Test.YtkflkmmbakccoaaGreatDoorJ26

/- WALKS: package grafterkeep: Greater. -/
namespace Go.Proofs.YtkflkmmbakccoaaGreatDoor
open Go.RowKit Go.Maps

/-- Numbers of 64 bits. -/
def In64 (x : Int) : Prop := -9223372036854775808 ≤ x ∧ x ≤ 9223372036854775807

/-- The lesser budget, and the greater one. -/
def lowB (a : Bud) : Bud := ⟨1 + pickM a.depth 20, 1 + pickM a.nodes 500, pickM a.anchors 101, 1 + pickM a.weight 2000⟩
def upB (b m : Bud) : Bud := ⟨min 20 (b.depth + pickM m.depth 5), min 500 (b.nodes + pickM m.nodes 50), min 100 (b.anchors + pickM m.anchors 9), b.weight + pickM m.weight 1000⟩

theorem greater_law {s : ByteArray} {b c : Bud} (hb : okBud b = true) (hc : okBud c = true) (h1 : BudLe b c) (h2 : b.weight ≤ c.weight) :
    (∃ u t, loadM s b = .ok u t ∧ loadM s c = .ok u t ∧ loadM s maxB = .ok u t) ∨ (∃ e p : Nat, loadM s b = .bad e p ∧ (e = 4 ∨ e = 5 ∨ e = 6 ∨ e = 9) ∧ ∀ p', loadM s maxB ≠ .bad 2 p') ∨
    (∃ e p : Nat, loadM s b = .bad e p ∧ loadM s c = .bad e p ∧ loadM s maxB = .bad e p ∧ (e = 2 → p = 0)) := by
  have hb' := okBud_iff.1 hb
  have hm : BudLe b maxB := ⟨by simp only [maxB]; omega, by simp only [maxB]; omega, by simp only [maxB]; omega⟩
  have hmo : okBud maxB = true := by decide
  have key : ∀ e p, loadM s b = .bad e p → (e = 4 ∨ e = 5 ∨ e = 6 ∨ e = 9) → ∀ p', loadM s maxB ≠ .bad 2 p' := fun e p he hc p' h => by
    rw [load_long hb (load_two hmo h)] at he
    cases he
    omega
  rcases load_greater (s := s) hb hc h1 h2 with ⟨u, t, e1, e2⟩ | ⟨e, p, e1, e2⟩ | ⟨e, p, e1, e2⟩
  · rcases load_greater (s := s) hb hmo hm (by simp only [maxB]; omega) with ⟨u', t', f1, f2⟩ | ⟨e, p, f1, f2⟩ | ⟨e, p, f1, f2⟩
    · rw [e1] at f1
      injection f1 with f3 f4
      subst f3 f4
      exact .inl ⟨u, t, e1, e2, f2⟩
    · rw [e1] at f1; cases f1
    · rw [e1] at f1; cases f1
  · exact .inr (.inl ⟨e, p, e1, e2, key e p e1 e2⟩)
  · rcases load_greater (s := s) hb hmo hm (by simp only [maxB]; omega) with ⟨u', t', f1, f2⟩ | ⟨e', p', f1, f2⟩ | ⟨e', p', f1, f2⟩
    · rw [e1] at f1; cases f1
    · exact .inr (.inl ⟨e', p', f1, f2, key e' p' f1 f2⟩)
    · rw [e1] at f1
      injection f1 with f3 f4
      subst f3 f4
      refine .inr (.inr ⟨e, p, e1, e2, f2, fun h2 => ?_⟩)
      rw [h2] at f2 e1
      rw [load_long hb (load_two hmo f2)] at e1
      injection e1 with _ e3
      exact e3.symm

theorem wrap64 {n : Int} (h : -9223372036854775808 ≤ n ∧ n ≤ 9223372036854775807) : IntKind.i64.wrap n = n := by
  rw [IntKind.wrap_i64]
  omega

set_option maxRecDepth 20000 in
set_option maxHeartbeats 4000000 in
theorem kGreater_any (s : ByteArray) (hs : s.size ≤ 9223372036854775807) (a m : Bud) (ha1 : In64 a.depth) (ha2 : In64 a.nodes) (ha3 : In64 a.anchors) (ha4 : In64 a.weight) (hm1 : In64 m.depth) (hm2 : In64 m.nodes) (hm3 : In64 m.anchors) (hm4 : In64 m.weight)
    (w : World) (N0 : Nat) (hT : TabW N0 w) (hN0 : N0 ≤ w.heap.size) (HK : Hid (∀ W, But [] w W → Calls Tryz.prog 13 #[] W fun e w' => e = .returned (.bool true) ∧ But [] W w')) :
    Calls Tryz.prog 7 #[.string s, budV a, budV m] w fun e w' => e = .returned (.bool true) ∧ But [] w w' := by
  obtain ⟨a0, a1, a2, a3⟩ := a
  obtain ⟨m0, m1, m2, m3⟩ := m
  simp only at ha1 ha2 ha3 ha4 hm1 hm2 hm3 hm4
  have HT : Hid _ := hT
  clear hT
  go_enter Tryz.func7, Tryz.ntmps7
  go_wp2_with fail
  have hb0 : But [] w ((w.alloc (.cells #[.int .i64 a0, .int .i64 a1, .int .i64 a2, .int .i64 a3] 29)).alloc (.cells #[.int .i64 m0, .int .i64 m1, .int .i64 m2, .int .i64 m3] 29)) := (alloc_but _ _).alloc _
  have hA0 : Blk ((w.alloc (.cells #[.int .i64 a0, .int .i64 a1, .int .i64 a2, .int .i64 a3] 29)).alloc (.cells #[.int .i64 m0, .int .i64 m1, .int .i64 m2, .int .i64 m3] 29)) w.heap.size #[.int .i64 a0, .int .i64 a1, .int .i64 a2, .int .i64 a3] 29 := by repeat (first | exact blk_at (by simp) | apply blk_old)
  have hM0 : Blk ((w.alloc (.cells #[.int .i64 a0, .int .i64 a1, .int .i64 a2, .int .i64 a3] 29)).alloc (.cells #[.int .i64 m0, .int .i64 m1, .int .i64 m2, .int .i64 m3] 29)) (w.heap.size + 1) #[.int .i64 m0, .int .i64 m1, .int .i64 m2, .int .i64 m3] 29 := by repeat (first | exact blk_at (by simp) | apply blk_old)
  refine Calls.mono (HK.out _ hb0) ?_
  rintro e w1 ⟨rfl, hb1⟩
  have hA1 := hb1.blk hA0 (by simp)
  have hM1 := hb1.blk hM0 (by simp)
  have HB1 : Hid (But [] w w1) := hb0.trans hb1 (by simp)
  have HM1 : Hid (Blk w1 (w.heap.size + 1) #[.int .i64 m0, .int .i64 m1, .int .i64 m2, .int .i64 m3] 29) := hM1
  obtain ⟨W1, hW1⟩ : ∃ W1, W1 = w1.drew.alloc (.cells #[.int .i64 0, .int .i64 0, .int .i64 0, .int .i64 0] 29) := ⟨_, rfl⟩
  have hA2 : Blk W1 w.heap.size #[.int .i64 a0, .int .i64 a1, .int .i64 a2, .int .i64 a3] 29 := by rw [hW1]; exact blk_old hA1.drew
  have hM2 : Blk W1 (w.heap.size + 1) #[.int .i64 m0, .int .i64 m1, .int .i64 m2, .int .i64 m3] 29 := by rw [hW1]; exact blk_old hM1.drew
  have hN2 : Blk W1 w1.heap.size #[.int .i64 0, .int .i64 0, .int .i64 0, .int .i64 0] 29 := by rw [hW1]; exact blk_new w1.drew _ _
  have HB2 : Hid (But [] w W1) := by unfold Hid; rw [hW1]; exact HB1.out.drew.alloc _
  have x0 : w1.drew.cell? ⟨w.heap.size, 0, none⟩ = some (.int .i64 a0) := hA1.cell rfl
  have x1 : w1.drew.cell? ⟨w.heap.size, 1, none⟩ = some (.int .i64 a1) := hA1.cell rfl
  have x2 : w1.drew.cell? ⟨w.heap.size, 2, none⟩ = some (.int .i64 a2) := hA1.cell rfl
  have x3 : w1.drew.cell? ⟨w.heap.size, 3, none⟩ = some (.int .i64 a3) := hA1.cell rfl
  have y0 : W1.cell? ⟨w.heap.size, 0, none⟩ = some (.int .i64 a0) := hA2.cell rfl
  have y1 : W1.cell? ⟨w.heap.size, 1, none⟩ = some (.int .i64 a1) := hA2.cell rfl
  have y2 : W1.cell? ⟨w.heap.size, 2, none⟩ = some (.int .i64 a2) := hA2.cell rfl
  have y3 : W1.cell? ⟨w.heap.size, 3, none⟩ = some (.int .i64 a3) := hA2.cell rfl
  have z0 := hN2.cell (i := 0) rfl
  have z1 := hN2.cell (i := 1) rfl
  have z2 := hN2.cell (i := 2) rfl
  have z3 := hN2.cell (i := 3) rfl
  have f0 := hN2.free 0
  have f1 := hN2.free 1
  have f2 := hN2.free 2
  have f3 := hN2.free 3
  have HW1 : Hid _ := hW1
  clear hb0 hA0 hM0 hb1 hM1 HK hW1
  have g0 := pickM_bd (c := a0) (n := 20) (by omega)
  have g1 := pickM_bd (c := a1) (n := 500) (by omega)
  have g2 := pickM_bd (c := a2) (n := 101) (by omega)
  have g3 := pickM_bd (c := a3) (n := 2000) (by omega)
  have v0 := wrap64 (n := 1 + pickM a0 20) (by omega)
  have v1 := wrap64 (n := 1 + pickM a1 500) (by omega)
  have v3 := wrap64 (n := 1 + pickM a3 2000) (by omega)
  go_wp2_with fail
  refine region_new 16 8 _ _ (.pointer (some ⟨w1.heap.size, 0, none⟩)) W1 (by kernel_rfl) (by kernel_rfl) rfl rfl rfl (fun a => ⟨rfl, by rw [HW1.out]; rfl⟩) ?_
  simp only [List.take_succ_cons, List.take_zero]
  apply Exists.intro
  apply And.intro
  · repeat still_step
    still_call (kPick_any a0 20 ha1 (by omega) _)
    repeat still_step
    still_call (kPick_any a1 500 ha2 (by omega) _)
    repeat still_step
    still_call (kPick_any a2 101 ha3 (by omega) _)
    repeat still_step
    still_call (kPick_any a3 2000 ha4 (by omega) _)
    repeat still_step
    exact wpStill_nil rfl
  · simp only [Act.put, go_sem]
    repeat still_step
    still_call (kPick_any a0 20 ha1 (by omega) _)
    repeat still_step
    still_call (kPick_any a1 500 ha2 (by omega) _)
    repeat still_step
    still_call (kPick_any a2 101 ha3 (by omega) _)
    repeat still_step
    still_call (kPick_any a3 2000 ha4 (by omega) _)
    repeat still_step
    refine wpStill_nil ⟨rfl, ?_⟩
    go_wp2_with fail
    generalize pickM a0 20 = b0 at *
    generalize pickM a1 500 = b1 at *
    generalize pickM a2 101 = b2 at *
    generalize pickM a3 2000 = b3 at *
    obtain ⟨W2, hW2⟩ : ∃ W2, W2 = (((W1.setCell ⟨w1.heap.size, 0, none⟩ (.int .i64 (1 + b0))).setCell ⟨w1.heap.size, 1, none⟩ (.int .i64 (1 + b1))).setCell ⟨w1.heap.size, 2, none⟩ (.int .i64 b2)).setCell ⟨w1.heap.size, 3, none⟩ (.int .i64 (1 + b3)) := ⟨_, rfl⟩
    rw [← hW2]
    have hlt : w.heap.size + 1 < w1.heap.size := HM1.out.lt
    have hbS : But [w1.heap.size] W1 W2 := by
      rw [hW2]
      exact ((((But.refl [w1.heap.size] W1).setCell (.inl (by simp)) _).setCell (.inl (by simp)) _).setCell (.inl (by simp)) _).setCell (.inl (by simp)) _
    have hM3 : Blk W2 (w.heap.size + 1) #[.int .i64 m0, .int .i64 m1, .int .i64 m2, .int .i64 m3] 29 := hbS.blk hM2 (by simp; omega)
    have hN3 : Blk W2 w1.heap.size #[.int .i64 (1 + b0), .int .i64 (1 + b1), .int .i64 b2, .int .i64 (1 + b3)] 29 := by
      rw [hW2]
      exact (((hN2.set 0 (.int .i64 (1 + b0))).set 1 (.int .i64 (1 + b1))).set 2 (.int .i64 b2)).set 3 (.int .i64 (1 + b3))
    have HB3 : Hid (But [] w W2) := by
      unfold Hid
      rw [hW2]
      exact (((HB2.out.setCell (.inr (by show w.heap.size ≤ w1.heap.size; omega)) _).setCell (.inr (by show w.heap.size ≤ w1.heap.size; omega)) _).setCell (.inr (by show w.heap.size ≤ w1.heap.size; omega)) _).setCell (.inr (by show w.heap.size ≤ w1.heap.size; omega)) _
    clear x0 x1 x2 x3 y0 y1 y2 y3 z0 z1 z2 z3 f0 f1 f2 f3 v0 v1 v3 hA1 hA2 hM2 hN2 HM1 HB1 HB2 HW1 hW2 hbS
    obtain ⟨W3, hW3⟩ : ∃ W3, W3 = W2.drew.alloc (.cells #[.int .i64 0, .int .i64 0, .int .i64 0, .int .i64 0] 29) := ⟨_, rfl⟩
    have hM4 : Blk W3 (w.heap.size + 1) #[.int .i64 m0, .int .i64 m1, .int .i64 m2, .int .i64 m3] 29 := by rw [hW3]; exact blk_old hM3.drew
    have hN4 : Blk W3 w1.heap.size #[.int .i64 (1 + b0), .int .i64 (1 + b1), .int .i64 b2, .int .i64 (1 + b3)] 29 := by rw [hW3]; exact blk_old hN3.drew
    have hC4 : Blk W3 W2.heap.size #[.int .i64 0, .int .i64 0, .int .i64 0, .int .i64 0] 29 := by rw [hW3]; exact blk_new W2.drew _ _
    have HB4 : Hid (But [] w W3) := by unfold Hid; rw [hW3]; exact HB3.out.drew.alloc _
    have HW3 : Hid _ := hW3
    clear hW3
    have hlt2 : w1.heap.size < W2.heap.size := hN3.lt
    have p0 : W2.drew.cell? ⟨w.heap.size + 1, 0, none⟩ = some (.int .i64 m0) := hM3.cell rfl
    have p1 : W2.drew.cell? ⟨w.heap.size + 1, 1, none⟩ = some (.int .i64 m1) := hM3.cell rfl
    have p2 : W2.drew.cell? ⟨w.heap.size + 1, 2, none⟩ = some (.int .i64 m2) := hM3.cell rfl
    have p3 : W2.drew.cell? ⟨w.heap.size + 1, 3, none⟩ = some (.int .i64 m3) := hM3.cell rfl
    have q0 : W2.drew.cell? ⟨w1.heap.size, 0, none⟩ = some (.int .i64 (1 + b0)) := hN3.cell rfl
    have q1 : W2.drew.cell? ⟨w1.heap.size, 1, none⟩ = some (.int .i64 (1 + b1)) := hN3.cell rfl
    have q2 : W2.drew.cell? ⟨w1.heap.size, 2, none⟩ = some (.int .i64 b2) := hN3.cell rfl
    have q3 : W2.drew.cell? ⟨w1.heap.size, 3, none⟩ = some (.int .i64 (1 + b3)) := hN3.cell rfl
    have r0 : W3.cell? ⟨w.heap.size + 1, 0, none⟩ = some (.int .i64 m0) := hM4.cell rfl
    have r1 : W3.cell? ⟨w.heap.size + 1, 1, none⟩ = some (.int .i64 m1) := hM4.cell rfl
    have r2 : W3.cell? ⟨w.heap.size + 1, 2, none⟩ = some (.int .i64 m2) := hM4.cell rfl
    have r3 : W3.cell? ⟨w.heap.size + 1, 3, none⟩ = some (.int .i64 m3) := hM4.cell rfl
    have s0 : W3.cell? ⟨w1.heap.size, 0, none⟩ = some (.int .i64 (1 + b0)) := hN4.cell rfl
    have s1 : W3.cell? ⟨w1.heap.size, 1, none⟩ = some (.int .i64 (1 + b1)) := hN4.cell rfl
    have s2 : W3.cell? ⟨w1.heap.size, 2, none⟩ = some (.int .i64 b2) := hN4.cell rfl
    have s3 : W3.cell? ⟨w1.heap.size, 3, none⟩ = some (.int .i64 (1 + b3)) := hN4.cell rfl
    have z0 := hC4.cell (i := 0) rfl
    have z1 := hC4.cell (i := 1) rfl
    have z2 := hC4.cell (i := 2) rfl
    have z3 := hC4.cell (i := 3) rfl
    have f0 := hC4.free 0
    have f1 := hC4.free 1
    have f2 := hC4.free 2
    have f3 := hC4.free 3
    have k0 := pickM_bd (c := m0) (n := 5) (by omega)
    have k1 := pickM_bd (c := m1) (n := 50) (by omega)
    have k2 := pickM_bd (c := m2) (n := 9) (by omega)
    have k3 := pickM_bd (c := m3) (n := 1000) (by omega)
    have v0 := wrap64 (n := 1 + b0 + pickM m0 5) (by omega)
    have v1 := wrap64 (n := 1 + b1 + pickM m1 50) (by omega)
    have v2 := wrap64 (n := b2 + pickM m2 9) (by omega)
    have v3 := wrap64 (n := 1 + b3 + pickM m3 1000) (by omega)
    refine region_new 28 9 _ _ (.pointer (some ⟨W2.heap.size, 0, none⟩)) W3 (by kernel_rfl) (by kernel_rfl) rfl rfl rfl (fun a => ⟨rfl, by rw [HW3.out]; rfl⟩) ?_
    simp only [List.take_succ_cons, List.take_zero]
    apply Exists.intro
    apply And.intro
    · repeat still_step
      still_call (kPick_any m0 5 hm1 (by omega) _)
      repeat still_step
      still_call (kPick_any m1 50 hm2 (by omega) _)
      repeat still_step
      still_call (kPick_any m2 9 hm3 (by omega) _)
      repeat still_step
      still_call (kPick_any m3 1000 hm4 (by omega) _)
      repeat still_step
      exact wpStill_nil rfl
    · simp only [Act.put, go_sem]
      repeat still_step
      still_call (kPick_any m0 5 hm1 (by omega) _)
      repeat still_step
      still_call (kPick_any m1 50 hm2 (by omega) _)
      repeat still_step
      still_call (kPick_any m2 9 hm3 (by omega) _)
      repeat still_step
      still_call (kPick_any m3 1000 hm4 (by omega) _)
      repeat still_step
      refine wpStill_nil ⟨rfl, ?_⟩
      go_wp2_with fail
      generalize pickM m0 5 = c0 at *
      generalize pickM m1 50 = c1 at *
      generalize pickM m2 9 = c2 at *
      generalize pickM m3 1000 = c3 at *
      obtain ⟨W4, hW4⟩ : ∃ W4, W4 = (((W3.setCell ⟨W2.heap.size, 0, none⟩ (.int .i64 (min 20 (1 + b0 + c0)))).setCell ⟨W2.heap.size, 1, none⟩ (.int .i64 (min 500 (1 + b1 + c1)))).setCell ⟨W2.heap.size, 2, none⟩ (.int .i64 (min 100 (b2 + c2)))).setCell ⟨W2.heap.size, 3, none⟩ (.int .i64 (1 + b3 + c3)) := ⟨_, rfl⟩
      rw [← hW4]
      have hbS : But [W2.heap.size] W3 W4 := by
        rw [hW4]
        exact ((((But.refl [W2.heap.size] W3).setCell (.inl (by simp)) _).setCell (.inl (by simp)) _).setCell (.inl (by simp)) _).setCell (.inl (by simp)) _
      have hC5 : Blk W4 W2.heap.size #[.int .i64 (min 20 (1 + b0 + c0)), .int .i64 (min 500 (1 + b1 + c1)), .int .i64 (min 100 (b2 + c2)), .int .i64 (1 + b3 + c3)] 29 := by
        rw [hW4]
        exact (((hC4.set 0 (.int .i64 (min 20 (1 + b0 + c0)))).set 1 (.int .i64 (min 500 (1 + b1 + c1)))).set 2 (.int .i64 (min 100 (b2 + c2)))).set 3 (.int .i64 (1 + b3 + c3))
      have hle2 : w.heap.size ≤ W2.heap.size := by omega
      have HB5 : Hid (But [] w W4) := by
        unfold Hid
        rw [hW4]
        exact (((HB4.out.setCell (.inr hle2) _).setCell (.inr hle2) _).setCell (.inr hle2) _).setCell (.inr hle2) _
      clear p0 p1 p2 p3 q0 q1 q2 q3 r0 r1 r2 r3 s0 s1 s2 s3 z0 z1 z2 z3 f0 f1 f2 f3 v0 v1 v2 v3 hM3 hM4 hN3 hN4 hC4 HB3 HB4 HW3 hW4 hbS
      have hob : okBud ⟨1 + b0, 1 + b1, b2, 1 + b3⟩ = true := okBud_iff.2 (by simp only; omega)
      have hoc : okBud ⟨min 20 (1 + b0 + c0), min 500 (1 + b1 + c1), min 100 (b2 + c2), 1 + b3 + c3⟩ = true := okBud_iff.2 (by simp only; omega)
      have HLW : Hid _ := greater_law (s := s) hob hoc ⟨by simp only; omega, by simp only; omega, by simp only; omega⟩ (by simp only; omega)
      have HL1 : Hid _ := load_any s ⟨1 + b0, 1 + b1, b2, 1 + b3⟩ hs W4
      clear hob hoc
      refine Calls.mono HL1.out ?_
      clear HL1
      intro e w5 hp1
      rcases HLW.out with ⟨u, t, l1, l2, l3⟩ | ⟨er, pl, l1, l4, l5⟩ | ⟨er, pl, l1, l2, l3, l4⟩
      · have hWh := load_whole2 l1
        rw [l1] at hp1
        obtain ⟨E1, nv1, rows1, d1, rfl, _, _, hI1, hr1, hd1, _, _, hb5⟩ := hp1
        have hC6 := hb5.blk hC5 (by simp)
        have hBw5 : But [] w w5 := HB5.out.trans hb5 (by simp)
        have HL2 : Hid _ := l2
        have HL3 : Hid _ := l3
        have HWh : Hid _ := hWh
        have HD1 : Hid (∀ W, But [] w5 W → (Calls Tryz.prog 19 #[.pointer (some ⟨d1, 0, none⟩)] W fun e w' => e = .returned (.string ⟨(plainM t.nodes 0).toArray⟩) ∧ But [] W w') ∧ (Calls Tryz.prog 15 #[.pointer (some ⟨d1, 0, none⟩)] W fun e w' => e = .returned (budV (measM t)) ∧ But [] W w')) := fun W hW =>
          ⟨dPlain_any E1 t nv1 rows1 W (hI1.frame hW (by simp)) hr1 hWh N0 (HT.out.below ((hBw5.trans hW (by simp)).below hN0 (by simp))) (Nat.le_trans hN0 (hBw5.trans hW (by simp)).size) d1 (hW.blk hd1 (by simp)), dMeasure_any E1 t nv1 rows1 W (hI1.frame hW (by simp)) hr1 d1 (hW.blk hd1 (by simp))⟩
        have x0 := hC6.cell (i := 0) rfl
        have x1 := hC6.cell (i := 1) rfl
        have x2 := hC6.cell (i := 2) rfl
        have x3 := hC6.cell (i := 3) rfl
        have HBw5 : Hid _ := hBw5
        clear l1 l2 l3 hWh hI1 hr1 hd1 hb5 hC5 hC6 HB5 HLW hBw5
        go_wp2_with fail
        refine Calls.mono (load_any s ⟨min 20 (1 + b0 + c0), min 500 (1 + b1 + c1), min 100 (b2 + c2), 1 + b3 + c3⟩ hs w5) ?_
        intro e w6 hp
        rw [HL2.out] at hp
        obtain ⟨E2, nv2, rows2, d2, rfl, _, _, hI2, hr2, hd2, _, _, hb6⟩ := hp
        have hBw6 : But [] w w6 := HBw5.out.trans hb6 (by simp)
        have HD2 : Hid (∀ W, But [] w6 W → (Calls Tryz.prog 19 #[.pointer (some ⟨d2, 0, none⟩)] W fun e w' => e = .returned (.string ⟨(plainM t.nodes 0).toArray⟩) ∧ But [] W w') ∧ (Calls Tryz.prog 15 #[.pointer (some ⟨d2, 0, none⟩)] W fun e w' => e = .returned (budV (measM t)) ∧ But [] W w')) := fun W hW =>
          ⟨dPlain_any E2 t nv2 rows2 W (hI2.frame hW (by simp)) hr2 HWh.out N0 (HT.out.below ((hBw6.trans hW (by simp)).below hN0 (by simp))) (Nat.le_trans hN0 (hBw6.trans hW (by simp)).size) d2 (hW.blk hd2 (by simp)), dMeasure_any E2 t nv2 rows2 W (hI2.frame hW (by simp)) hr2 d2 (hW.blk hd2 (by simp))⟩
        have HBw6 : Hid _ := hBw6
        clear HL2 hI2 hr2 hd2 x0 x1 x2 x3 HBw5 hBw6
        go_wp2_with fail
        refine Calls.mono (kMost_any w6) ?_
        rintro e w7 ⟨rfl, hb7⟩
        have HLD : Hid _ := load_any s maxB hs w7
        go_wp2_with fail
        refine Calls.mono HLD.out ?_
        intro e w8 hp
        rw [HL3.out] at hp
        obtain ⟨E3, nv3, rows3, d3, rfl, _, _, hI3, hr3, hd3, _, _, hb8⟩ := hp
        have hb68 : But [] w6 w8 := hb7.trans hb8 (by simp)
        have hBw8 : But [] w w8 := HBw6.out.trans hb68 (by simp)
        have HD3 : Hid (∀ W, But [] w8 W → (Calls Tryz.prog 19 #[.pointer (some ⟨d3, 0, none⟩)] W fun e w' => e = .returned (.string ⟨(plainM t.nodes 0).toArray⟩) ∧ But [] W w') ∧ (Calls Tryz.prog 15 #[.pointer (some ⟨d3, 0, none⟩)] W fun e w' => e = .returned (budV (measM t)) ∧ But [] W w')) := fun W hW =>
          ⟨dPlain_any E3 t nv3 rows3 W (hI3.frame hW (by simp)) hr3 HWh.out N0 (HT.out.below ((hBw8.trans hW (by simp)).below hN0 (by simp))) (Nat.le_trans hN0 (hBw8.trans hW (by simp)).size) d3 (hW.blk hd3 (by simp)), dMeasure_any E3 t nv3 rows3 W (hI3.frame hW (by simp)) hr3 d3 (hW.blk hd3 (by simp))⟩
        have HBw8 : Hid _ := hBw8
        have hb58 : But [] w5 w8 := hb6.trans hb68 (by simp)
        clear HL3 HLD hI3 hr3 hd3 HBw6 hBw8 HT HWh hb6 hb7 hb8
        generalize (⟨(plainM t.nodes 0).toArray⟩ : ByteArray) = z at *
        generalize measM t = M at *
        obtain ⟨u0, u1, u2, u3⟩ := M
        have HP1 : Hid _ := (HD1.out w8 hb58).1
        go_wp2_with fail
        refine Calls.mono HP1.out ?_
        rintro e w9 ⟨rfl, hb9⟩
        have HP2 : Hid _ := (HD2.out w9 (hb68.trans hb9 (by simp))).1
        clear HP1
        go_wp2_with fail
        refine Calls.mono HP2.out ?_
        rintro e w10 ⟨rfl, hb10⟩
        have hb810 : But [] w8 w10 := hb9.trans hb10 (by simp)
        have HP3 : Hid _ := (HD3.out w10 hb810).1
        clear HP2 hb9 hb10
        go_wp2_with fail
        refine Calls.mono HP3.out ?_
        rintro e w11 ⟨rfl, hb11⟩
        have hb811 : But [] w8 w11 := hb810.trans hb11 (by simp)
        have HM1 : Hid _ := (HD1.out w11 (hb58.trans hb811 (by simp))).2
        clear HP3 hb810 hb11
        go_wp2_with fail
        refine Calls.mono HM1.out ?_
        rintro e w12 ⟨rfl, hb12⟩
        have hb812 : But [] w8 w12 := hb811.trans hb12 (by simp)
        have HM2 : Hid _ := (HD2.out w12 (hb68.trans hb812 (by simp))).2
        clear HM1 hb811 hb12
        go_wp2_with fail
        refine Calls.mono HM2.out ?_
        rintro e w13 ⟨rfl, hb13⟩
        have hb813 : But [] w8 w13 := hb812.trans hb13 (by simp)
        have HM3 : Hid _ := (HD1.out w13 (hb58.trans hb813 (by simp))).2
        clear HM2 hb812 hb13
        go_wp2_with fail
        refine Calls.mono HM3.out ?_
        rintro e w14 ⟨rfl, hb14⟩
        have hb814 : But [] w8 w14 := hb813.trans hb14 (by simp)
        have HM4 : Hid _ := (HD3.out w14 hb814).2
        clear HM3 hb813 hb14
        go_wp2_with fail
        refine Calls.mono HM4.out ?_
        rintro e w15 ⟨rfl, hb15⟩
        have HB15 : Hid (But [] w w15) := HBw8.out.trans (hb814.trans hb15 (by simp)) (by simp)
        clear HM4 HD1 HD2 HD3
        go_wp2_with fail
        go_ret
        exact ⟨rfl, HB15.out⟩
      · rw [l1] at hp1
        obtain ⟨rfl, hb5, _⟩ := hp1
        have hC6 := hb5.blk hC5 (by simp)
        have HBw5 : Hid (But [] w w5) := HB5.out.trans hb5 (by simp)
        have x0 := hC6.cell (i := 0) rfl
        have x1 := hC6.cell (i := 1) rfl
        have x2 := hC6.cell (i := 2) rfl
        have x3 := hC6.cell (i := 3) rfl
        have HL5 : Hid _ := l5
        have HL4 : Hid _ := l4
        clear l1 l4 l5 hb5 hC5 hC6 HB5 HLW HT
        go_wp2_with fail
        refine Calls.mono (load_any s ⟨min 20 (1 + b0 + c0), min 500 (1 + b1 + c1), min 100 (b2 + c2), 1 + b3 + c3⟩ hs w5) ?_
        intro e w6 hp
        have hc : ∃ (pv : Option Addr) (er2 pl2 : Nat), e = .returned (.tuple #[.pointer pv, .int .i64 (er2 : Int), .int .i64 (pl2 : Int)]) ∧ But [] w5 w6 ∧ ((pv = none ∧ er2 ≠ 0) ∨ (pv ≠ none ∧ er2 = 0)) := by
          cases hm : loadM s ⟨min 20 (1 + b0 + c0), min 500 (1 + b1 + c1), min 100 (b2 + c2), 1 + b3 + c3⟩ with
          | ok u t => rw [hm] at hp; obtain ⟨E2, nv2, rows2, d2, rfl, _, _, _, _, _, _, _, hb6⟩ := hp; exact ⟨some ⟨d2, 0, none⟩, 0, 0, rfl, hb6, .inr ⟨by simp, rfl⟩⟩
          | bad e2 p2 => rw [hm] at hp; obtain ⟨rfl, hb6, he⟩ := hp; exact ⟨none, e2, p2, rfl, hb6, .inl ⟨rfl, he⟩⟩
        obtain ⟨pv2, er2, pl2, rfl, hb6, hc2⟩ := hc
        have HC2 : Hid _ := hc2
        clear hc2 hp x0 x1 x2 x3
        go_wp2_with fail
        refine Calls.mono (kMost_any w6) ?_
        rintro e w7 ⟨rfl, hb7⟩
        have HLD : Hid _ := load_any s maxB hs w7
        go_wp2_with fail
        refine Calls.mono HLD.out ?_
        intro e w8 hp
        have hc : ∃ (pv : Option Addr) (er2 pl2 : Nat), e = .returned (.tuple #[.pointer pv, .int .i64 (er2 : Int), .int .i64 (pl2 : Int)]) ∧ But [] w7 w8 ∧ ((pv = none ∧ er2 ≠ 0) ∨ (pv ≠ none ∧ er2 = 0)) ∧ er2 ≠ 2 := by
          cases hm : loadM s maxB with
          | ok u t => rw [hm] at hp; obtain ⟨E2, nv2, rows2, d2, rfl, _, _, _, _, _, _, _, hb6⟩ := hp; exact ⟨some ⟨d2, 0, none⟩, 0, 0, rfl, hb6, .inr ⟨by simp, rfl⟩, by omega⟩
          | bad e2 p2 => rw [hm] at hp; obtain ⟨rfl, hb6, he⟩ := hp; exact ⟨none, e2, p2, rfl, hb6, .inl ⟨rfl, he⟩, fun e => HL5.out p2 (by rw [hm, e])⟩
        obtain ⟨pv3, er3, pl3, rfl, hb8, hc3, hne3⟩ := hc
        have HB8 : Hid (But [] w w8) := ((HBw5.out.trans hb6 (by simp)).trans hb7 (by simp)).trans hb8 (by simp)
        have hq2 : ((er3 : Int) == 2) = false := by simp; omega
        clear HL5 hp HLD hb6 hb7 hb8 HBw5
        have t3 : (pv3 = none ∧ ((er3 : Int) != 0) = true) ∨ (∃ ad, pv3 = some ad ∧ ((er3 : Int) != 0) = false) := by
          rcases hc3 with ⟨h1, h2⟩ | ⟨h1, h2⟩
          · exact .inl ⟨h1, by simpa using h2⟩
          · cases pv3 with
            | none => exact absurd rfl h1
            | some ad => exact .inr ⟨ad, rfl, by simp [h2]⟩
        have t2 : (pv2 = none ∧ ((er2 : Int) != 0) = true) ∨ (∃ ad, pv2 = some ad ∧ ((er2 : Int) != 0) = false) := by
          rcases HC2.out with ⟨h1, h2⟩ | ⟨h1, h2⟩
          · exact .inl ⟨h1, by simpa using h2⟩
          · cases pv2 with
            | none => exact absurd rfl h1
            | some ad => exact .inr ⟨ad, rfl, by simp [h2]⟩
        clear hc3 HC2 hne3
        rcases t3 with ⟨rfl, n3⟩ | ⟨ad3, rfl, n3⟩ <;> rcases t2 with ⟨rfl, n2⟩ | ⟨ad2, rfl, n2⟩ <;> rcases HL4.out with rfl | rfl | rfl | rfl <;> clear HL4
        all_goals
          go_wp2_with fail
          go_ret
          exact ⟨rfl, HB8.out⟩
      · rw [l1] at hp1
        obtain ⟨rfl, hb5, her⟩ := hp1
        have hC6 := hb5.blk hC5 (by simp)
        have HBw5 : Hid (But [] w w5) := HB5.out.trans hb5 (by simp)
        have x0 := hC6.cell (i := 0) rfl
        have x1 := hC6.cell (i := 1) rfl
        have x2 := hC6.cell (i := 2) rfl
        have x3 := hC6.cell (i := 3) rfl
        have HL2 : Hid _ := l2
        have HL3 : Hid _ := l3
        have HL4 : Hid _ := l4
        clear l1 l2 l3 l4 hb5 hC5 hC6 HB5 HLW HT
        go_wp2_with fail
        refine Calls.mono (load_any s ⟨min 20 (1 + b0 + c0), min 500 (1 + b1 + c1), min 100 (b2 + c2), 1 + b3 + c3⟩ hs w5) ?_
        intro e w6 hp
        rw [HL2.out] at hp
        obtain ⟨rfl, hb6, _⟩ := hp
        clear x0 x1 x2 x3 HL2
        go_wp2_with fail
        refine Calls.mono (kMost_any w6) ?_
        rintro e w7 ⟨rfl, hb7⟩
        have HLD : Hid _ := load_any s maxB hs w7
        go_wp2_with fail
        refine Calls.mono HLD.out ?_
        intro e w8 hp
        rw [HL3.out] at hp
        obtain ⟨rfl, hb8, _⟩ := hp
        have HB8 : Hid (But [] w w8) := ((HBw5.out.trans hb6 (by simp)).trans hb7 (by simp)).trans hb8 (by simp)
        clear HL3 HLD hb6 hb7 hb8 HBw5
        have n0 : ((er : Int) != 0) = true := by simpa using her
        by_cases h2 : er = 2
        · have hp0 := HL4.out h2
          subst h2 hp0
          clear HL4
          go_wp2_with fail
          go_ret
          exact ⟨rfl, HB8.out⟩
        · have q2 : ((er : Int) == 2) = false := by simp; omega
          clear HL4 h2
          go_wp2_with fail
          all_goals
            go_ret
            exact ⟨rfl, HB8.out⟩

end Go.Proofs.YtkflkmmbakccoaaGreatDoor
