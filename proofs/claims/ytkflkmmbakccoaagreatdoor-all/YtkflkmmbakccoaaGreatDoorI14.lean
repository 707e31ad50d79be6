/- PARTS: Mod12. -/
import Derived.Test.YtkflkmmbakccoaaGreatDoorI13

/- THE PLAIN FUNCTIONS: what stands at a path, as grafterref looks for it. No program is named here. -/
namespace Go.Proofs.YtkflkmmbakccoaaGreatDoor

/-- The j-th part of a node stands under x. -/
def hitB (n : NodeV) (x : ByteArray) (j : Nat) : Bool := (decide (n.kind = 1) && decide (decL j = x.data.toList)) || (decide (n.kind = 2) && decide (n.keys[j]? = some x))

/-- The last of the first m parts that stands under x. -/
def lastM (n : NodeV) (x : ByteArray) : Nat → Option Nat
  | 0 => none
  | j + 1 => if hitB n x j then some j else lastM n x j

theorem lastM_some (n : NodeV) (x : ByteArray) : ∀ m j, lastM n x m = some j → j < m ∧ hitB n x j = true
  | 0, j, h => by cases h
  | m + 1, j, h => by
    unfold lastM at h
    split at h
    · rename_i h1
      injection h with h
      subst h
      exact ⟨by omega, h1⟩
    · have := lastM_some n x m j h
      exact ⟨by omega, this.2⟩

theorem lastM_none (n : NodeV) (x : ByteArray) : ∀ m, lastM n x m = none → ∀ j, j < m → hitB n x j = false
  | 0, _, j, hj => by omega
  | m + 1, h, j, hj => by
    unfold lastM at h
    split at h
    · cases h
    · rename_i h1
      by_cases e : j = m
      · subst e; simpa using h1
      · exact lastM_none n x m h j (by omega)

theorem last_find {nodes : List NodeV} {n : NodeV} (hn : NodeOk nodes n) (x : ByteArray) : lastM n x n.parts.length = findM n x := by
  unfold findM
  by_cases h1 : n.kind = 1
  · rw [if_pos h1]
    have hb : ∀ j, hitB n x j = decide (decL j = x.data.toList) := fun j => by simp [hitB, h1]
    cases hl : lastM n x n.parts.length with
    | none =>
      symm
      rw [List.find?_eq_none]
      intro j hj
      have := lastM_none n x _ hl j (List.mem_range.1 hj)
      rw [hb] at this
      simpa using this
    | some j =>
      obtain ⟨a, b⟩ := lastM_some n x _ j hl
      rw [hb] at b
      have b' : decL j = x.data.toList := by simpa using b
      cases hf : (List.range n.parts.length).find? (fun j => decide (decL j = x.data.toList)) with
      | none =>
        have := List.find?_eq_none.1 hf j (List.mem_range.2 a)
        simp [b'] at this
      | some q =>
        have hq := List.find?_some hf
        have hq' : decL q = x.data.toList := by simpa using hq
        rw [decL_inj (b'.trans hq'.symm)]
  · rw [if_neg h1]
    by_cases h2 : n.kind = 2
    · rw [if_pos h2]
      have hkl := hn.keys
      rw [if_pos h2] at hkl
      have hb : ∀ j, hitB n x j = decide (n.keys[j]? = some x) := fun j => by simp [hitB, h2]
      cases hl : lastM n x n.parts.length with
      | none =>
        symm
        rw [List.findIdx?_eq_none_iff]
        intro y hy
        obtain ⟨i, hi, rfl⟩ := List.mem_iff_getElem.1 hy
        have := lastM_none n x _ hl i (by omega)
        rw [hb] at this
        simpa [hi] using this
      | some j =>
        obtain ⟨a, b⟩ := lastM_some n x _ j hl
        rw [hb] at b
        have b' : n.keys[j]? = some x := by simpa using b
        cases hf : n.keys.findIdx? (fun y => decide (y = x)) with
        | none =>
          have := List.findIdx?_eq_none_iff.1 hf x (List.mem_of_getElem? b')
          simp at this
        | some q =>
          obtain ⟨hq, hq', _⟩ := List.findIdx?_eq_some_iff_getElem.1 hf
          have hq2 : n.keys[q]? = some x := by rw [List.getElem?_eq_getElem hq]; simpa using hq'
          rw [(List.getElem?_inj (by omega) hn.apart).1 (b'.trans hq2.symm)]
    · rw [if_neg h2]
      have h0 : n.kind = 0 := by have := hn.kind; omega
      rw [hn.none h0]
      rfl

/-- The number that goes on: -1, or the part's. -/
def nextI (n : NodeV) : Option Nat → Int
  | none => -1
  | some q => (n.parts.getD q 0 : Nat)

end Go.Proofs.YtkflkmmbakccoaaGreatDoor
