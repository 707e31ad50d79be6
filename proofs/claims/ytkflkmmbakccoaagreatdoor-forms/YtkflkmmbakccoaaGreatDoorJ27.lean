/- PARTS: B24. -/
import Derived.Test.YtkflkmmbakccoaaGreatDoorJ26

/- WALKS: package grafter: Unfold. -/
namespace Go.Proofs.YtkflkmmbakccoaaGreatDoor
open Go.RowKit Go.Maps

theorem unfB_case (nodes : List NodeV) (most : Int) : (unfB nodes 0 most = .tuple #[.string ⟨(unfoldL nodes 0).toArray⟩, .bool true] ∧ unfV nodes most = .tuple #[.string ⟨(unfoldL nodes 0).toArray⟩, .int .i64 0]) ∨ (unfB nodes 0 most = .tuple #[.string ⟨#[]⟩, .bool false] ∧ unfV nodes most = .tuple #[.string ⟨#[]⟩, .int .i64 9]) := by
  unfold unfB unfV
  by_cases h : ((unfoldL nodes 0).length : Int) ≤ most
  · rw [if_pos h, if_pos h]; exact .inl ⟨rfl, rfl⟩
  · rw [if_neg h, if_neg h]; exact .inr ⟨rfl, rfl⟩

set_option maxRecDepth 20000 in
set_option maxHeartbeats 1000000 in
theorem dUnfold_any (E : Env) (t : PS) (nv : Value) (rows : List Row) (w : World) (h : PInv E t nv rows w) (hn : 0 < rows.length) (hW : Whole t.nodes) (N0 : Nat) (hT : TabW N0 w) (hN0 : N0 ≤ w.heap.size) (d : Nat) (hd : Blk w d #[.pointer (some ⟨E.g, 0, none⟩)] 59) (most : Int) (hm1 : -9223372036854775808 ≤ most) (hm2 : most ≤ 9223372036854775807) :
    Calls Tryz.prog 24 #[.pointer (some ⟨d, 0, none⟩), .int .i64 most] w fun e w' => e = .returned (unfV t.nodes (mostM most)) ∧ But [] w w' := by
  have hsame := h.same
  have c0 : w.cell? ⟨d, 0, none⟩ = some (.pointer (some ⟨E.g, 0, none⟩)) := hd.cell rfl
  have hGI : GI (wenv w.heap.size E.g) t.anchors nv rows E.base w := h.toGI _ rfl rfl
  have HGI : Hid (Bs (wenv w.heap.size E.g) t.anchors nv rows E.base w) := ⟨hGI, hT.mono hN0⟩
  rw [hsame] at hW
  have HS : Hid (t.nodes = rows.map Row.n) := hsame
  have hmo : mostM most ≤ 20000 := by unfold mostM; split <;> omega
  have HU : Hid (∀ W, WS (wenv w.heap.size E.g) [] (fun _ => 0) [] (.slice none 0 0) [] W → Bs (wenv w.heap.size E.g) t.anchors nv rows E.base W → Calls Tryz.prog 33 #[wpt (wenv w.heap.size E.g), .int .i64 ((0 : Nat) : Int), .int .i64 (mostM most)] W fun e w' => e = .returned (unfB (rows.map Row.n) 0 (mostM most)) ∧ Below (wenv w.heap.size E.g).N W w') := fun W h1 h2 => wUnfolded_any _ _ _ _ _ _ W h1 t.anchors nv rows E.base hW h2 0 hn (mostM most) hmo
  have hme : mostM most = min most 20000 := by unfold mostM; split <;> omega
  have HCS : Hid _ := unfB_case (rows.map Row.n) (mostM most)
  clear hsame hGI h hT hmo
  rw [hme] at HU HCS ⊢
  clear hme
  go_enter Tryz.func24, Tryz.ntmps24
  go_wp2_with fail
  refine (isNothing_any d E.g w hd).mono ?_
  rintro e w1 ⟨rfl, hw1⟩
  rw [hw1]
  clear hw1
  go_wp2_with fail
  refine (newWriter_any E.g w).mono ?_
  rintro e w2 ⟨rfl, hS2, hb2⟩
  have hBs2 := HGI.out.below (hb2.below (Nat.le_refl _) (by simp))
  have HU2 : Hid _ := HU.out w2 hS2 hBs2
  go_wp2_with fail
  refine Calls.mono HU2.out ?_
  rintro e w3 ⟨rfl, hb3⟩
  have HB3 : Hid (But [] w w3) := below_but ((hb2.below (Nat.le_refl _) (by simp)).trans hb3)
  rcases HCS.out with ⟨h1, h2⟩ | ⟨h1, h2⟩
  all_goals
    rw [h1]
    have H2 : Hid _ := h2
    clear h1 h2
    go_wp2_with fail
    go_ret2
    refine ⟨?_, HB3.out⟩
    rw [HS.out, H2.out]
    rfl

end Go.Proofs.YtkflkmmbakccoaaGreatDoor
