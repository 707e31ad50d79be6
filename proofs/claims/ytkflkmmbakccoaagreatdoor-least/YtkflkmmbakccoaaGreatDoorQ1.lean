/- PARTS: K3. -/
import Derived.Test.YtkflkmmbakccoaaGreatDoorJ19

/- THE PLAIN FUNCTIONS: Measure is the least budget. -/
namespace Go.Proofs.YtkflkmmbakccoaaGreatDoor

/-- One less of one thing. -/
def lessD (B : Bud) : Bud := { B with depth := B.depth - 1 }
def lessN (B : Bud) : Bud := { B with nodes := B.nodes - 1 }
def lessA (B : Bud) : Bud := { B with anchors := B.anchors - 1 }
def lessW (B : Bud) : Bud := { B with weight := B.weight - 1 }

theorem maxB_ok : okBud maxB = true := by decide

theorem least_law {s : ByteArray} {u : Unit} {t : PS} (h : loadM s maxB = .ok u t) :
    loadM s (measM t) = .ok u t ∧ (1 ≤ (measM t).depth ∧ 1 ≤ (measM t).nodes ∧ (measM t).nodes ≤ (measM t).weight ∧ 0 ≤ (measM t).anchors ∧ (measM t).depth ≤ 20 ∧ (measM t).nodes ≤ 500 ∧ (measM t).anchors ≤ 100 ∧ (measM t).weight ≤ 1000000000000) ∧
    (∃ er p : Nat, loadM s (lessD (measM t)) = .bad er p ∧ (er = 4 ∨ (er = 1 ∧ (measM t).depth - 1 = 0))) ∧
    (∃ er p : Nat, loadM s (lessN (measM t)) = .bad er p ∧ (er = 5 ∨ (er = 1 ∧ (measM t).nodes - 1 = 0))) ∧
    (∃ er p : Nat, loadM s (lessA (measM t)) = .bad er p ∧ (er = 6 ∨ (er = 1 ∧ (measM t).anchors - 1 < 0))) ∧
    (∃ er : Nat, loadM s (lessW (measM t)) = .bad er 0 ∧ (er = 9 ∨ (er = 1 ∧ (measM t).weight - 1 = 0))) := by
  obtain ⟨hW, h0, hh, hnm, hwalk, hd, hn, ha⟩ := load_all h
  obtain ⟨_, hs, _, hw⟩ := load_ok h
  have hge := heavy_ge hW h0 hwalk
  simp only [maxB] at hd hn ha hw
  have m1 : (measM t).depth = (highOf t.nodes 0 : Int) := rfl
  have m2 : (measM t).nodes = (t.nodes.length : Int) := rfl
  have m3 : (measM t).anchors = (t.anchors : Int) := rfl
  have m4 : (measM t).weight = (heavyOf t.nodes 0 : Int) := rfl
  have hok : okBud (measM t) = true := okBud_iff.2 (by rw [m1, m2, m3, m4]; omega)
  have hB : (1 ≤ (measM t).depth ∧ 1 ≤ (measM t).nodes ∧ (measM t).nodes ≤ (measM t).weight ∧ 0 ≤ (measM t).anchors ∧ (measM t).depth ≤ 20 ∧ (measM t).nodes ≤ 500 ∧ (measM t).anchors ≤ 100 ∧ (measM t).weight ≤ 1000000000000) := by rw [m1, m2, m3, m4]; omega
  refine ⟨?_, hB, ?_, ?_, ?_, ?_⟩
  · rcases load_fall h hok with ⟨e, _⟩ | ⟨p, _, x⟩ | ⟨p, _, x⟩ | ⟨p, _, x⟩ | ⟨_, x⟩
    · exact e
    · omega
    · omega
    · omega
    · omega
  · by_cases h1 : (measM t).depth - 1 = 0
    · exact ⟨1, 0, load_not (by rw [← Bool.not_eq_true, okBud_iff]; simp only [lessD]; omega), .inr ⟨rfl, h1⟩⟩
    · have hl : okBud (lessD (measM t)) = true := okBud_iff.2 (by simp only [lessD]; omega)
      rcases load_fall h hl with ⟨_, x, _⟩ | ⟨p, e, x⟩ | ⟨p, _, x⟩ | ⟨p, _, x⟩ | ⟨_, x⟩ <;> simp only [lessD] at x
      · omega
      · exact ⟨_, p, e, .inl rfl⟩
      · omega
      · omega
      · omega
  · by_cases h1 : (measM t).nodes - 1 = 0
    · exact ⟨1, 0, load_not (by rw [← Bool.not_eq_true, okBud_iff]; simp only [lessN]; omega), .inr ⟨rfl, h1⟩⟩
    · have hl : okBud (lessN (measM t)) = true := okBud_iff.2 (by simp only [lessN]; omega)
      rcases load_fall h hl with ⟨_, _, x, _⟩ | ⟨p, _, x⟩ | ⟨p, e, x⟩ | ⟨p, _, x⟩ | ⟨_, x⟩ <;> simp only [lessN] at x
      · omega
      · omega
      · exact ⟨_, p, e, .inl rfl⟩
      · omega
      · omega
  · by_cases h1 : (measM t).anchors - 1 < 0
    · exact ⟨1, 0, load_not (by rw [← Bool.not_eq_true, okBud_iff]; simp only [lessA]; omega), .inr ⟨rfl, h1⟩⟩
    · have hl : okBud (lessA (measM t)) = true := okBud_iff.2 (by simp only [lessA]; omega)
      rcases load_fall h hl with ⟨_, _, _, x, _⟩ | ⟨p, _, x⟩ | ⟨p, _, x⟩ | ⟨p, e, x⟩ | ⟨_, x⟩ <;> simp only [lessA] at x
      · omega
      · omega
      · omega
      · exact ⟨_, p, e, .inl rfl⟩
      · omega
  · by_cases h1 : (measM t).weight - 1 = 0
    · exact ⟨1, load_not (by rw [← Bool.not_eq_true, okBud_iff]; simp only [lessW]; omega), .inr ⟨rfl, h1⟩⟩
    · have hl : okBud (lessW (measM t)) = true := okBud_iff.2 (by simp only [lessW]; omega)
      rcases load_fall h hl with ⟨_, _, _, _, x⟩ | ⟨p, _, x⟩ | ⟨p, _, x⟩ | ⟨p, _, x⟩ | ⟨e, x⟩ <;> simp only [lessW] at x
      · omega
      · omega
      · omega
      · omega
      · exact ⟨_, e, .inl rfl⟩

end Go.Proofs.YtkflkmmbakccoaaGreatDoor
