/- PARTS: Inv6. -/
import Derived.Test.YtkflkmmbakccoaaGreatDoorH6

/- THE PARSER IN MEMORY: a node of one's own: made, its kind, its text; handed over. -/
namespace Go.Proofs.YtkflkmmbakccoaaGreatDoor
open Go.RowKit Go.Maps

theorem LInv.made {E : Env} {t : PS} {nv : Value} {rows : List Row} {w : World} (h : PInv E t nv rows w) (n : NodeV) (hk : n.keys = []) (hp : n.parts = []) :
    PInv E t nv rows (w.alloc (.cells (Row.cells ⟨n, .slice none 0 0, .slice none 0 0⟩).toArray 79)) ∧ LInv E w.heap.size ⟨n, .slice none 0 0, .slice none 0 0⟩ nv rows (w.alloc (.cells (Row.cells ⟨n, .slice none 0 0, .slice none 0 0⟩).toArray 79)) := by
  refine ⟨h.frame (alloc_but _ _) (by simp), ⟨heap_alloc_new w _, ⟨⟨by simp [hk], .inl ⟨rfl, by simp [hk]⟩⟩, ⟨by simp [hp], .inl ⟨rfl, by simp [hp]⟩⟩⟩, fun hx => ?_, fun x hx => by simp [Row.pub, own] at hx⟩⟩
  have := h.foot_lt (x := w.heap.size) (by simp only [foot, List.mem_cons, List.mem_append]; exact .inr (.inr (.inr (.inl hx))))
  omega

theorem LInv.setKind {E : Env} {t : PS} {nv : Value} {rows : List Row} {b : Nat} {r : Row} {w : World} (hL : LInv E b r nv rows w) (h : PInv E t nv rows w) (k : Nat) :
    PInv E t nv rows (w.setCell ⟨b, 0, none⟩ (.int .i64 (k : Int))) ∧ LInv E b ⟨{ r.n with kind := k }, r.kv, r.pv⟩ nv rows (w.setCell ⟨b, 0, none⟩ (.int .i64 (k : Int))) := by
  have hb : But [b] w (w.setCell ⟨b, 0, none⟩ (.int .i64 (k : Int))) := (But.refl _ _).setCell (by simp) _
  have hn := hL.b_not h
  refine ⟨h.frame hb (fun x hx => by have := List.mem_singleton.1 hx; subst this; exact hn.1), ⟨?_, ?_, hL.nb, hL.apart⟩⟩
  · have := hL.blk.set 0 (.int .i64 (k : Int))
    simpa [Row.cells] using this
  · exact RowOk.but (r := ⟨{ r.n with kind := k }, r.kv, r.pv⟩) hL.ok hb (fun x hx hy => by have := List.mem_singleton.1 hy; subst this; exact hn.2 hx)

theorem LInv.setText {E : Env} {t : PS} {nv : Value} {rows : List Row} {b : Nat} {r : Row} {w : World} (hL : LInv E b r nv rows w) (h : PInv E t nv rows w) (x : ByteArray) :
    PInv E t nv rows (w.setCell ⟨b, 1, none⟩ (.string x)) ∧ LInv E b ⟨{ r.n with text := x }, r.kv, r.pv⟩ nv rows (w.setCell ⟨b, 1, none⟩ (.string x)) := by
  have hb : But [b] w (w.setCell ⟨b, 1, none⟩ (.string x)) := (But.refl _ _).setCell (by simp) _
  have hn := hL.b_not h
  refine ⟨h.frame hb (fun y hx => by have := List.mem_singleton.1 hx; subst this; exact hn.1), ⟨?_, ?_, hL.nb, hL.apart⟩⟩
  · have := hL.blk.set 1 (.string x)
    simpa [Row.cells] using this
  · exact RowOk.but (r := ⟨{ r.n with text := x }, r.kv, r.pv⟩) hL.ok hb (fun y hx hy => by have := List.mem_singleton.1 hy; subst this; exact hn.2 hx)

theorem pub_set {rows : List Row} {id : Nat} {r : Row} {x : Nat} (h : x ∈ pub (rows.set id r)) : x ∈ pub rows ∨ x ∈ r.pub := by
  simp only [pub, List.mem_flatMap] at h ⊢
  obtain ⟨q, hq, hx⟩ := h
  rcases List.mem_or_eq_of_mem_set hq with hq | rfl
  · exact .inl ⟨q, hq, hx⟩
  · exact .inr hx

/-- What was done with a node of one's own (made at w's end), seen from ahead of its making. -/
theorem mayL_fresh {E : Env} {nv : Value} {r : Row} {w : World} {b : Nat} (hbz : w.heap.size ≤ b) (hr : r.pub = []) : ∀ x ∈ mayL E b r nv, x ∈ E.p :: E.g :: E.m :: own nv ∨ w.heap.size ≤ x := by
  intro x hx
  rw [mayL_mem] at hx
  simp only [List.mem_cons]
  rcases hx with hx | hx | hx | hx | hx | hx
  · exact .inl (.inl hx)
  · exact .inl (.inr (.inl hx))
  · exact .inl (.inr (.inr (.inl hx)))
  · right; omega
  · exact .inl (.inr (.inr (.inr hx)))
  · rw [hr] at hx; cases hx

/-- A node's end, seen from ahead of the making of the node of one's own. -/
theorem Good.ended {E : Env} {nv nv1 : Value} {rows rows1 : List Row} {w w1 w2 : World} {t1 t2 : PS} {id : Nat} {r : Row} (hb : But (E.p :: E.g :: E.m :: own nv) w w1) (ho : ∀ x ∈ own nv1, x ∈ own nv ∨ w.heap.size ≤ x) (hp : ∀ x ∈ pub rows1, x ∈ pub rows ∨ w.heap.size ≤ x)
    (hr : ∀ x ∈ r.pub, w.heap.size ≤ x) (hI : PInv E t2 nv1 (rows1.set id r) w2) (hb2 : But (own nv1) w1 w2) (_h1 : PInv E t1 nv1 rows1 w1) : Good E nv rows w t2 w2 := by
  refine ⟨nv1, _, hI, hb.trans hb2 (fun x hx => ?_), ho, fun x hx => ?_⟩
  · rcases ho x hx with h1 | h1
    · exact .inl (by simp [h1])
    · exact .inr h1
  · rcases pub_set hx with h1 | h1
    · exact hp x h1
    · exact .inr (hr x h1)

end Go.Proofs.YtkflkmmbakccoaaGreatDoor
