/- PARTS: L4. -/
import Derived.Test.YtkflkmmbakccoaaGreatDoorH36
import Derived.Test.YtkflkmmbakccoaaGreatDoorH24

/- WALKS: package grafterlaw: plays, Loads. -/
namespace Go.Proofs.YtkflkmmbakccoaaGreatDoor
open Go.RowKit Go.Maps

theorem lstep_any {w0 : World} {wb : Nat} {ps : List (Nat × Nat)} {lv : Value} {w : World} (hW : WOk w0 wb ps lv w) (kd e n : Int) (hkd : kd ≤ 2) (he : -9223372036854775808 ≤ e) (he2 : e ≤ 9223372036854775807) (s : ByteArray) (hs : s.size ≤ 9223372036854775807) (B : Bud) (pa : Option Addr) (pn pc : Nat) (hn : ps.length + 1 ≤ 8000000000000) :
    Calls Tryz.prog 25 #[.pointer (some ⟨wb, 0, none⟩), stepV kd e n s B (.slice pa pn pc)] w fun r w' => LPost w0 wb (ps.length + stepN kd s B) r w' :=
  lstep_of hW kd e n hkd he he2 s B pa pn pc (fun h => lloads_any h s hs B hn) hn

/-- The first doc's text: the document's second example. -/
def text0 : ByteArray := ⟨#[45, 32, 38, 112, 32, 91, 49, 44, 32, 50, 93, 10, 45, 32, 42, 112, 10, 45, 32, 123, 107, 58, 32, 42, 112, 125]⟩
def bud0 : Bud := ⟨4, 5, 1, 11⟩
theorem load0 : loadN text0 bud0 = 1 := by decide +kernel

/-- The cells of a step of the script. -/
structure StepC where
  kd : Int
  e : Int
  n : Int
  s : ByteArray
  B : Bud
  pa : Option Addr
  pn : Nat
  pc : Nat

def StepC.cells (c : StepC) : List Value := [.int .i64 c.kd, .int .i64 c.e, .int .i64 c.n, .string c.s, .int .i64 c.B.depth, .int .i64 c.B.nodes, .int .i64 c.B.anchors, .int .i64 c.B.weight, .slice c.pa c.pn c.pc]

/-- What the walk asks of a script. -/
structure Script (w : World) (v : Value) (steps : List StepC) : Prop where
  shape : ∃ a cap, v = .slice a steps.length cap ∧ steps.length ≤ cap ∧ (0 < steps.length → ∃ sb off, a = some ⟨sb, off, none⟩ ∧ sb < w.heap.size ∧ ∀ i (hi : i < steps.length), ∀ j, j < 9 → w.cell? ⟨sb, off + i * 9 + j, none⟩ = (steps[i]).cells[j]?)
  e : ∀ c ∈ steps, -9223372036854775808 ≤ c.e ∧ c.e ≤ 9223372036854775807
  s : ∀ c ∈ steps, c.s.size ≤ 9223372036854775807
  len : steps.length + 3 ≤ 8000000000000

theorem Script.cell {w : World} {v : Value} {steps : List StepC} (h : Script w v steps) {i : Nat} (hi : i < steps.length) : ∃ sb off cap, v = .slice (some ⟨sb, off, none⟩) steps.length cap ∧ steps.length ≤ cap ∧ ∀ (W : World), But [] w W → ∀ j, j < 9 → W.cell? ⟨sb, off + i * 9 + j, none⟩ = (steps[i]).cells[j]? := by
  obtain ⟨a, cap, e, hc, hs⟩ := h.shape
  obtain ⟨sb, off, rfl, hlt, hcell⟩ := hs (by omega)
  refine ⟨sb, off, cap, e, hc, fun W hW j hj => ?_⟩
  rw [← hcell i hi j hj]
  simp only [World.cell?]
  rw [hW.block sb hlt (by simp)]

set_option maxRecDepth 20000 in
set_option maxHeartbeats 8000000 in
theorem lplays_any {w : World} {v : Value} {steps : List StepC} (hS : Script w v steps) :
    Calls Tryz.prog 12 #[v, .int .i64 2] w fun e w' => e = .returned (.bool true) ∧ But [] w w' := by
  have hW0 : WOk w w.heap.size [] (.slice none 0 0) (w.alloc (.cells #[.slice none 0 0] 53)) := ⟨blk_new _ _ _, ⟨rfl, .inl ⟨rfl, rfl⟩⟩, (fun p hp => by cases hp), alloc_but _ _, Nat.le_refl _⟩
  have HS0 : Hid _ := lstep_any hW0 1 0 0 (by omega) (by omega) (by omega) text0 (by decide +kernel) bud0 none 0 0 (by simp)
  have HN0 : Hid (stepN 1 text0 bud0 = 1) := by unfold Hid stepN; rw [if_pos rfl]; exact load0
  obtain ⟨va, vcap, hv, hvc, _⟩ := hS.shape
  subst hv
  have hlen := hS.len
  have HSC : Hid _ := hS
  clear hS
  go_enter Tryz.func12, Tryz.ntmps12
  go_wp2_with fail
  refine Calls.mono HS0.out ?_
  rintro e w1 ⟨rfl, ps1, lv1, hW1, hl1⟩
  rw [HN0.out] at hl1
  obtain ⟨la, lcap, hlv, hlc⟩ := own_shape hW1.row
  subst hlv
  have c0 : w1.cell? ⟨w.heap.size, 0, none⟩ = some (.slice la ps1.length lcap) := hW1.blk.cell rfl
  have hne : ((ps1.length : Int) != 1) = false := by simp at hl1; simp [hl1]
  have hle1 : ps1.length ≤ 1 := by simp at hl1; omega
  clear HS0 hW0 hl1
  go_wp2_with fail
  go_loopg [6, 7] (steps.length + 1) (fun gk okv iv wr => ∃ (i : Nat) (ps : List (Nat × Nat)) (lv : Value), gk = steps.length + 1 - i ∧ i ≤ steps.length ∧ okv = .bool true ∧ iv = .int .i64 (i : Int) ∧ WOk w w.heap.size ps lv wr ∧ ps.length ≤ i + 1)
  case atStart => exact ⟨0, ps1, _, rfl, Nat.zero_le _, rfl, rfl, hW1, by omega⟩
  case round =>
    obtain ⟨i, ps, lv, rfl, hi, rfl, rfl, hW2, hpl⟩ := hrel
    clear c0 hne
    by_cases hlt : i < steps.length
    · obtain ⟨sb, off, cap', ev, _, hcell⟩ := HSC.out.cell hlt
      obtain ⟨rfl, rfl⟩ : va = some ⟨sb, off, none⟩ ∧ vcap = cap' := by simpa using ev
      have hc := hcell wr hW2.but
      have k0 := hc 0 (by omega)
      have k1 := hc 1 (by omega)
      have k2 := hc 2 (by omega)
      have k3 := hc 3 (by omega)
      have k4 := hc 4 (by omega)
      have k5 := hc 5 (by omega)
      have k6 := hc 6 (by omega)
      have k7 := hc 7 (by omega)
      have k8 := hc 8 (by omega)
      have hmem : steps[i] ∈ steps := List.getElem_mem hlt
      have hce := HSC.out.e _ hmem
      have hcs := HSC.out.s _ hmem
      clear hc hcell ev
      generalize steps[i] = c at *
      obtain ⟨kd, e, n, s, B, pa, pn, pc⟩ := c
      simp only [StepC.cells, List.getElem?_cons_succ, List.getElem?_cons_zero, Nat.add_zero] at k0 k1 k2 k3 k4 k5 k6 k7 k8 hce hcs
      by_cases hk : kd ≤ 2
      · have HST : Hid _ := lstep_any hW2 kd e n hk hce.1 hce.2 s hcs B pa pn pc (by omega)
        have HNN : Hid (stepN kd s B ≤ 1) := by
          unfold Hid stepN loadN
          split
          · split <;> omega
          · omega
        go_wp2_with fail
        refine Calls.mono HST.out ?_
        rintro r w2 ⟨rfl, ps', lv', hW3, hl3⟩
        go_wp2_with fail
        go_roundg (steps.length + 1 - (i + 1))
        case measure => omega
        case rel => exact ⟨i + 1, ps', lv', rfl, by omega, rfl, by go_num, hW3, by have := HNN.out; omega⟩
      · go_wp2_with fail
        go_roundg (steps.length + 1 - (i + 1))
        case measure => omega
        case rel => exact ⟨i + 1, ps, lv, rfl, by omega, rfl, by go_num, hW2, by omega⟩
    · have HW2 : Hid _ := hW2
      have hpl2 : ps.length ≤ steps.length + 1 := by omega
      clear hW2
      go_wp2_with fail
      go_loopg [6, 8, 9] (ps.length + 1) (fun gk okv iv _ wr2 => ∃ (j : Nat) (lv : Value) (ps2 : List (Nat × Nat)), gk = ps.length + 1 - j ∧ j ≤ ps.length ∧ okv = .bool true ∧ iv = .int .i64 (j : Int) ∧ WOk w w.heap.size ps2 lv wr2 ∧ ps2.length = ps.length)
      case atStart => exact ⟨0, lv, ps, rfl, Nat.zero_le _, rfl, rfl, HW2.out, rfl⟩
      case round =>
        obtain ⟨j, lv2, ps2, rfl, hj, rfl, rfl, hW3, hl3⟩ := hrel
        obtain ⟨la2, lcap2, hlv2, hlc2⟩ := own_shape hW3.row
        subst hlv2
        have c2 : wr.cell? ⟨w.heap.size, 0, none⟩ = some (.slice la2 ps2.length lcap2) := hW3.blk.cell rfl
        have HW3 : Hid _ := hW3
        clear hW3
        by_cases hlt2 : j < ps2.length
        · go_wp2_with fail
          go_loopg [6, 9] 2 (fun gk okv kv wr3 => ∃ (q : Nat) (lv : Value) (ps3 : List (Nat × Nat)), gk = 2 - q ∧ q ≤ 1 ∧ okv = .bool true ∧ kv = .int .i64 (2 + (q : Int)) ∧ WOk w w.heap.size ps3 lv wr3 ∧ ps3.length = ps.length)
          case atStart => exact ⟨0, _, ps2, rfl, by omega, rfl, rfl, HW3.out, hl3⟩
          case round =>
            obtain ⟨q, lv3, ps3, rfl, hq, rfl, rfl, hW4, hl4⟩ := hrel
            by_cases hq0 : q = 0
            · subst hq0
              have hbs : But [] wr (wr.alloc (.cells #[.string ⟨#[50]⟩] 9)) := alloc_but _ _
              have HST : Hid _ := lstep_any (hW4.still hbs) 2 (j : Int) 500 (by omega) (by omega) (by omega) ⟨#[]⟩ (by decide) ⟨0, 0, 0, 0⟩ (some ⟨wr.heap.size, 0, none⟩) 1 1 (by omega)
              have HNN : Hid (stepN 2 ⟨#[]⟩ ⟨0, 0, 0, 0⟩ = 0) := by unfold Hid stepN; rw [if_neg (by omega)]
              have hz : (2 : Int) + ((0 : Nat) : Int) = 2 := by omega
              rw [hz]
              clear hz
              go_wp2_with fail
              refine Calls.mono HST.out ?_
              rintro r w5 ⟨rfl, ps', lv', hW5, hl5⟩
              rw [HNN.out] at hl5
              go_wp2_with fail
              go_roundg 1
              case measure => omega
              case rel => exact ⟨1, lv', ps', rfl, by omega, rfl, by go_num, hW5, by omega⟩
            · have hq1 : q = 1 := by omega
              subst hq1
              have hz : (2 : Int) + ((1 : Nat) : Int) = 3 := by omega
              rw [hz]
              clear hz
              go_wp2_with fail
              go_roundg (ps.length + 1 - (j + 1))
              case measure => omega
              case rel => exact ⟨j + 1, lv3, ps3, rfl, by omega, rfl, by go_num, hW4, hl4⟩
        · go_wp2_with fail
          go_ret
          exact ⟨rfl, HW3.out.but⟩

set_option maxHeartbeats 400000 in
theorem lLoads_any {w : World} {v : Value} {steps : List StepC} (hS : Script w v steps) :
    Calls Tryz.prog 3 #[v] w fun e w' => e = .returned (.bool true) ∧ But [] w w' := by
  have HP : Hid _ := lplays_any hS
  clear hS
  go_enter Tryz.func3, Tryz.ntmps3
  go_wp2_with fail
  refine Calls.mono HP.out ?_
  rintro e w1 ⟨rfl, hb⟩
  go_wp2_with fail
  go_ret
  exact ⟨rfl, hb⟩

end Go.Proofs.YtkflkmmbakccoaaGreatDoor
