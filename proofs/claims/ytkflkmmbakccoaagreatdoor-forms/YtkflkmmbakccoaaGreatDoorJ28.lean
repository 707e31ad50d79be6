/- PARTS: K2. -/
import Derived.Test.YtkflkmmbakccoaaGreatDoorJ19
import Derived.Test.YtkflkmmbakccoaaGreatDoorJ27

/- WALKS: package grafterkeep: known: the document's second example. -/
namespace Go.Proofs.YtkflkmmbakccoaaGreatDoor
open Go.RowKit Go.Maps

/-- The document's second example: the text, its plain form, unfolded. -/
def kText : ByteArray := ⟨#[45, 32, 38, 112, 32, 91, 49, 44, 32, 50, 93, 10, 45, 32, 42, 112, 10, 45, 32, 123, 107, 58, 32, 42, 112, 125]⟩
def kPlain : List UInt8 := [91, 38, 110, 48, 32, 91, 49, 44, 32, 50, 93, 44, 32, 42, 110, 48, 44, 32, 123, 107, 58, 32, 42, 110, 48, 125, 93]
def kUnf : List UInt8 := [91, 91, 49, 44, 32, 50, 93, 44, 32, 91, 49, 44, 32, 50, 93, 44, 32, 123, 107, 58, 32, 91, 49, 44, 32, 50, 93, 125, 93]

def kSays : Res Unit → Bool
  | .ok _ t => decide (plainM t.nodes 0 = kPlain) && decide (unfoldL t.nodes 0 = kUnf) && decide (highOf t.nodes 0 = 4) && decide (t.nodes.length = 5) && decide (t.anchors = 1) && decide (heavyOf t.nodes 0 = 11)
  | .bad _ _ => false

theorem known_says : kSays (loadM kText maxB) = true := by decide +kernel

theorem known_load : ∃ u t, loadM kText maxB = .ok u t ∧ plainM t.nodes 0 = kPlain ∧ unfoldL t.nodes 0 = kUnf ∧ measM t = ⟨4, 5, 1, 11⟩ := by
  have h := known_says
  cases hm : loadM kText maxB with
  | bad er pl => rw [hm] at h; cases h
  | ok u t =>
    rw [hm] at h
    simp only [kSays, Bool.and_eq_true, decide_eq_true_eq] at h
    obtain ⟨⟨⟨⟨⟨h1, h2⟩, h3⟩, h4⟩, h5⟩, h6⟩ := h
    exact ⟨u, t, rfl, h1, h2, by unfold measM; rw [h3, h4, h5, h6]; rfl⟩

set_option maxRecDepth 20000 in
set_option maxHeartbeats 1000000 in
theorem known_any (w : World) (N0 : Nat) (hT : TabW N0 w) (hN0 : N0 ≤ w.heap.size) : Calls Tryz.prog 13 #[] w fun e w' => e = .returned (.bool true) ∧ But [] w w' := by
  obtain ⟨u, t, hm, h1, h2, h3⟩ := known_load
  have hWh := load_whole2 hm
  have HR : Hid _ := kRead_any kText (by decide) w
  have hv : unfV t.nodes (mostM 99) = .tuple #[.string ⟨kUnf.toArray⟩, .int .i64 0] := by
    unfold unfV
    rw [h2, if_pos (by decide)]
  go_enter Tryz.func13, Tryz.ntmps13
  go_wp2_with fail
  refine Calls.mono HR.out ?_
  intro e w1 hp
  rw [hm] at hp
  obtain ⟨E, nv, rows, d, rfl, hI, hr, hd, hb1⟩ := hp
  have hT1 := hT.below (hb1.below hN0 (by simp))
  have hN1 := Nat.le_trans hN0 hb1.size
  have HP : Hid _ := dPlain_any E t nv rows w1 hI hr hWh N0 hT1 hN1 d hd
  rw [h1] at HP
  have HU : Hid (∀ W, But [] w1 W → Calls Tryz.prog 24 #[.pointer (some ⟨d, 0, none⟩), .int .i64 99] W fun e w' => e = .returned (.tuple #[.string ⟨kUnf.toArray⟩, .int .i64 0]) ∧ But [] W w') := fun W hW => by
    have := dUnfold_any E t nv rows W (hI.frame hW (by simp)) hr hWh N0 (hT1.below (hW.below hN1 (by simp))) (Nat.le_trans hN1 hW.size) d (hW.blk hd (by simp)) 99 (by omega) (by omega)
    rw [hv] at this
    exact this
  have HM : Hid (∀ W, But [] w1 W → Calls Tryz.prog 15 #[.pointer (some ⟨d, 0, none⟩)] W fun e w' => e = .returned (budV ⟨4, 5, 1, 11⟩) ∧ But [] W w') := fun W hW => by
    have := dMeasure_any E t nv rows W (hI.frame hW (by simp)) hr d (hW.blk hd (by simp))
    rw [h3] at this
    exact this
  clear hm h1 h2 h3 hv HR hI hT hT1 hWh
  go_wp2_with fail
  refine Calls.mono HP.out ?_
  rintro e w2 ⟨rfl, hb2⟩
  have HU2 : Hid _ := HU.out w2 hb2
  go_wp2_with fail
  refine Calls.mono HU2.out ?_
  rintro e w3 ⟨rfl, hb3⟩
  have HM3 : Hid _ := HM.out w3 (hb2.trans hb3 (by simp))
  go_wp2_with fail
  refine Calls.mono HM3.out ?_
  rintro e w4 ⟨rfl, hb4⟩
  have hB4 : But [] w w4 := ((hb1.trans hb2 (by simp)).trans hb3 (by simp)).trans hb4 (by simp)
  have hkp : ((⟨kPlain.toArray⟩ : ByteArray).toList == (⟨#[91, 38, 110, 48, 32, 91, 49, 44, 32, 50, 93, 44, 32, 42, 110, 48, 44, 32, 123, 107, 58, 32, 42, 110, 48, 125, 93]⟩ : ByteArray).toList) = true := by decide +kernel
  have hku : ((⟨kUnf.toArray⟩ : ByteArray).toList == (⟨#[91, 91, 49, 44, 32, 50, 93, 44, 32, 91, 49, 44, 32, 50, 93, 44, 32, 123, 107, 58, 32, 91, 49, 44, 32, 50, 93, 125, 93]⟩ : ByteArray).toList) = true := by decide +kernel
  go_wp2_with fail
  go_ret
  refine ⟨ret_bool (by simp), ?_⟩
  repeat (first | exact hB4 | refine But.alloc ?_ _ | refine But.setCell ?_ (.inr hB4.size) _)

end Go.Proofs.YtkflkmmbakccoaaGreatDoor
