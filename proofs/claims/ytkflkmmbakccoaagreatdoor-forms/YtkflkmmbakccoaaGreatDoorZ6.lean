/- PARTS: S0, S0b, S0d. -/
import Derived.Test.YtkflkmmbakccoaaGreatDoorJ29
import Derived.ChangeMaps5
import Derived.Test.YtkflkmmbakccoaaGreatDoorZ3

/- THE STATEMENTS' GROUND: the laid table, where no error is laid. -/
namespace Go.Proofs.YtkflkmmbakccoaaGreatDoor
open Go.ChangeShapes Go.WideShapes Go.ChangeAt Go.WideElems Go.RowKit Go.Deep

set_option maxRecDepth 100000 in
theorem tabw_of_laid {W : World} (h : laidMetH Tryz.prog Rows.leastRow.laid W) : TabW W.heap.size W := by
  have h0 : laidMet Tryz.prog Rows.leastRow.laid W := by
    rw [MakeChecks.laidMetH_plain _ _ _ (by kernel_rfl)] at h
    exact h
  have h1 : laidMet Tryz.prog [("internal/strconv.uint64pow10", Lib.tabData .u64 Lib.pow10Tab)] W := by
    rw [← pow_data]
    exact h0.tail.tail
  have p1 : Lib.TabIs Tryz.prog W "internal/strconv.uint64pow10" .u64 Lib.pow10Tab := Lib.tabIs_of_head g_pow (t := 220) (e := 191) (n := 20) (by kernel_rfl) (by kernel_rfl) (by kernel_rfl) (by kernel_rfl) (by kernel_rfl) h1
  exact ⟨p1, var_lt g_pow p1⟩

/-- The door's own heap meets the condition. -/
theorem doorW_met (os : Os) (args : Array Value) : laidMetH Tryz.prog Rows.leastRow.laid ((World.doorLaid Tryz.prog 4000 os).forCall (fun _ _ => 0) ⟨#[], args, []⟩).memory :=
  laidMetH_of_parts3 (fuel := 8) (laidMet_of_run' 8 (by kernel_rfl) (by kernel_rfl)) (by kernel_rfl) (by kernel_rfl)

theorem maxLen_le : maxLen ≤ 9223372036854775807 := by decide

end Go.Proofs.YtkflkmmbakccoaaGreatDoor

/- THE STATEMENTS' GROUND: the door's own heap, where the errors are laid. -/
namespace Go.Proofs.YtkflkmmbakccoaaGreatDoor
open Go.ChangeShapes Go.WideShapes Go.ChangeAt Go.WideElems Go.RowKit Go.Deep

/-- The door's own heap meets the condition. -/
theorem doorS_met (os : Os) (args : Array Value) : laidMetH Tryz.prog Rows.tellsRow.laid ((World.doorLaid Tryz.prog 4000 os).forCall (fun _ _ => 0) ⟨#[], args, []⟩).memory :=
  laidMetH_of_parts3 (fuel := 8) (laidMet_of_run' 8 (by kernel_rfl) (by kernel_rfl)) (by kernel_rfl) (by kernel_rfl)

end Go.Proofs.YtkflkmmbakccoaaGreatDoor

/- THE STATEMENTS' GROUND: raw numbers that came in. -/
namespace Go.Proofs.YtkflkmmbakccoaaGreatDoor
open Go.ChangeShapes Go.WideShapes Go.ChangeAt Go.WideElems Go.RowKit Go.Deep

theorem bInt : Tryz.prog.bytesOf 3 = 8 := by kernel_rfl

/-- Raw numbers that came in. -/
theorem raw_of_trod {H : Type} {enc : TypeId × Value → H} {W : World} {held : Bool} {fuel : Nat} {c : Value} {x : DataW H × List MemPlace} (hh : held = true) (h : DataW.trod enc Tryz.prog W 0 (fun _ => true) held fuel 42 [c] = some x)
    (hz : ∀ n ∈ x.1.weights Tryz.prog 42, n ≤ reachBytes) : ∃ raw, RawOk W c raw := by
  subst hh
  rcases open_slice1 Tryz.underlying42 cInt h with ⟨hcs, hx⟩ | ⟨a, len, cap, m, n, V, D, Pl, hcs, _, hl, hm, hmm, hx, hel⟩
  · simp at hcs
    subst hcs
    exact ⟨[], ⟨⟨_, _, rfl, Nat.le_refl _, by omega, (fun h => by simp at h)⟩, (fun y hy => by cases hy)⟩⟩
  · simp at hcs
    subst hcs
    simp only [if_true] at hmm
    subst hmm
    rw [hx] at hz
    simp only at hz
    have hrb : reachBytes ≤ 140737488355328 := by decide
    have h1 := hz ((((List.range len).map D).length + ((List.range (m - len)).map fun j => D (len + j)).length) * Tryz.prog.bytesOf 3) (by simp [DataW.weights, Tryz.underlying42])
    rw [bInt] at h1
    simp only [List.length_map, List.length_range] at h1
    have each : ∀ i, i < len → ∃ y : Int, W.cell? (a.add i) = some (.int .i64 y) ∧ (-9223372036854775808 ≤ y ∧ y ≤ 9223372036854775807) := fun i hi => by
      obtain ⟨g1, g2⟩ := hel i (by omega)
      obtain ⟨y, e1, _, e3⟩ := DataW.trod_int Tryz.underlying3 g2
      simp at e1
      exact ⟨y, by rw [g1, e1], bounds_i64 e3⟩
    let f : Nat → Int := fun i => if hi : i < len then (each i hi).choose else 0
    have hfs : ∀ i, i < len → W.cell? (a.add i) = some (.int .i64 (f i)) ∧ (-9223372036854775808 ≤ f i ∧ f i ≤ 9223372036854775807) := fun i hi => by
      have := (each i hi).choose_spec
      simp only [f, dif_pos hi]
      exact this
    obtain ⟨b, off, spot⟩ := a
    refine ⟨(List.range len).map f, ⟨⟨_, _, (by rw [List.length_map, List.length_range]), (by simpa using hl), (by omega), fun h0 => ?_⟩, fun c hc => ?_⟩⟩
    · simp only [List.length_map, List.length_range] at h0
      have hspot : spot = none := by
        have := (hfs 0 h0).1
        simpa [Addr.add] using World.cell?_spot this
      subst hspot
      refine ⟨b, off, rfl, ?_, fun i hi => ?_⟩
      · have hc0 := (hfs 0 h0).1
        by_cases hx : b < W.heap.size
        · exact hx
        · simp [World.cell?, Addr.add, Array.getElem?_eq_none (by omega : W.heap.size ≤ b)] at hc0
      · have hi' : i < len := by simpa using hi
        have := (hfs i hi').1
        rw [addr_none] at this
        rw [this]
        simp
    · obtain ⟨i, hi, rfl⟩ := List.mem_map.1 hc
      exact (hfs i (by simpa using hi)).2

end Go.Proofs.YtkflkmmbakccoaaGreatDoor
