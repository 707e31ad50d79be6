/- PARTS: S0c. -/
import Derived.Test.YtkflkmmbakccoaaGreatDoorY1
import Derived.Test.YtkflkmmbakccoaaGreatDoorY2

/- THE STATEMENTS' GROUND: a budget that came in. -/
namespace Go.Proofs.YtkflkmmbakccoaaGreatDoor
open Go.ChangeShapes Go.WideShapes Go.ChangeAt Go.WideElems Go.RowKit Go.Deep

set_option maxRecDepth 100000 in
/-- A budget that came in: its numbers. -/
theorem bud_of_trod {H : Type} {enc : TypeId × Value → H} {w : World} {held : Bool} {r : Reach} {b0 : Nat} {v : Value} {d : DataW H} {p : List MemPlace} (hval : Value.okWide Tryz.prog w r b0 29 v) (h : DataW.Trod enc Tryz.prog w 0 (fun _ => true) held 29 v d p) :
    ∃ B : Bud, v = budV B ∧ In64 B.depth ∧ In64 B.nodes ∧ In64 B.anchors ∧ In64 B.weight := by
  obtain ⟨cs, rfl, hsz⟩ := okWide_struct Tryz.underlying29 hval
  rw [cBud] at hsz
  obtain ⟨fuel, hf⟩ := h
  obtain ⟨l⟩ := cs
  have hl : l.length = 4 := by simpa using hsz
  match l, hl with
  | [c0, c1, c2, c3], _ =>
    have hf' : DataW.trod enc Tryz.prog w 0 (fun _ => true) held fuel 29 [c0, c1, c2, c3] = some (d, p) := hf
    obtain ⟨zs, n4, _, _, _, hz, hg⟩ := DataW.trod_struct Tryz.underlying29 hf'
    have g0 := hg 0 _ rfl
    have g1 := hg 1 _ rfl
    have g2 := hg 2 _ rfl
    have g3 := hg 3 _ rfl
    clear hg
    match zs, hz with
    | [z0, z1, z2, z3], _ =>
      have g0 : DataW.trod enc Tryz.prog w 0 (fun _ => true) held n4 3 (List.take (Tryz.prog.cellsOf 3) [c0, c1, c2, c3]) = some z0 := g0
      have g1 : DataW.trod enc Tryz.prog w 0 (fun _ => true) held n4 3 (List.take (Tryz.prog.cellsOf 3) [c1, c2, c3]) = some z1 := g1
      have g2 : DataW.trod enc Tryz.prog w 0 (fun _ => true) held n4 3 (List.take (Tryz.prog.cellsOf 3) [c2, c3]) = some z2 := g2
      have g3 : DataW.trod enc Tryz.prog w 0 (fun _ => true) held n4 3 (List.take (Tryz.prog.cellsOf 3) [c3]) = some z3 := g3
      rw [cInt] at g0 g1 g2 g3
      obtain ⟨b0, q0, _, w0⟩ := DataW.trod_int Tryz.underlying3 g0
      obtain ⟨b1, q1, _, w1⟩ := DataW.trod_int Tryz.underlying3 g1
      obtain ⟨b2, q2, _, w2⟩ := DataW.trod_int Tryz.underlying3 g2
      obtain ⟨b3, q3, _, w3⟩ := DataW.trod_int Tryz.underlying3 g3
      simp only [List.take_succ_cons, List.take_zero, List.cons.injEq, and_true] at q0 q1 q2 q3
      subst q0 q1 q2 q3
      exact ⟨⟨b0, b1, b2, b3⟩, rfl, bounds_i64 w0, bounds_i64 w1, bounds_i64 w2, bounds_i64 w3⟩

end Go.Proofs.YtkflkmmbakccoaaGreatDoor
