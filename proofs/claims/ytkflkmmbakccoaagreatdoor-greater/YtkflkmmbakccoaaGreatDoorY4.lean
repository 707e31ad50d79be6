/- THE STATEMENT: for every text and all numbers, Greater returns true: what is let in under one budget is let in under one that is greater or the same in each number, and says the same; what is refused for its text is refused under each, at the same place. -/
import Derived.Test.YtkflkmmbakccoaaGreatDoorJ28
import Derived.Test.YtkflkmmbakccoaaGreatDoorY3

namespace Go.Proofs.YtkflkmmbakccoaaGreatDoor
open Go.ChangeShapes Go.WideShapes Go.ChangeAt Go.WideElems Go.RowKit Go.Deep

set_option maxRecDepth 100000 in
theorem greater_lifted (os : Os) (started : os.Started) (H : Type) (enc : TypeId × Value → H) :
    ReturnsInHanded {} Tryz.checked os 7 .any (fun w args => (Rows.greaterSpec.pre enc Tryz.prog Tryz.f7 [] false w args ∧ laidMetH Tryz.prog Rows.greaterRow.laid w) ∧ sizedMet enc Tryz.prog Tryz.f7 (OpenSpec.ofChange Rows.greaterSpec) false w args)
      (Rows.greaterSpec.post enc Tryz.prog Tryz.f7 false true false false) := by
  refine returnsInHanded_of_change_and (C := Tryz.checked) (X := fun w _ => laidMetH Tryz.prog Rows.greaterRow.laid w) (fun _ _ _ hh h => h.of_heap hh) Tryz.own started (by kernel_rfl) Tryz.func7
    (ChangeSpec.witness_shaped (enc := enc) (C := Tryz.checked) (os := os) (X := fun w _ => laidMetH Tryz.prog Rows.greaterRow.laid w) false (World.doorLaid Tryz.prog 4000 os) #[.string ⟨#[]⟩, .agg #[.int .i64 0, .int .i64 0, .int .i64 0, .int .i64 0], .agg #[.int .i64 0, .int .i64 0, .int .i64 0, .int .i64 0]] 8 rfl (World.shaped_of_RefB (by kernel_rfl) (by kernel_rfl)) (by kernel_rfl) (by kernel_rfl) (by kernel_rfl) (doorW_met os _)) ?_
  intro W base args ds gs before hval0 hW _ hsz0 hX _
  have hval : ∀ (j : Nat) t v, Tryz.f7.params[j]? = some t → args[j]? = some v → Value.okWide Tryz.prog W .any base t v := hval0
  have hW' := hW
  obtain ⟨p, q, hA0, hV, rfl, _, _⟩ := hW
  have hA : DataW.TrodAll enc Tryz.prog W 0 (fun _ => true) true Tryz.f7.params.toList args.toList ds p := hA0
  rw [Tryz.params7] at hA hval
  obtain ⟨v0, v1, v2, d0, d1, d2, p0, p1, p2, rfl, rfl, rfl, h0, h1, h2⟩ := trodAll_three hA
  obtain ⟨rfl, rfl⟩ := trodVars_none hV
  clear hA0 hval0
  simp only [List.append_nil] at hW'
  have hlt : ∀ x ∈ p0 ++ p1 ++ p2, x.block < W.heap.size := fun x hx => by simpa using hW'.lt x hx
  obtain ⟨s, rfl, rfl, rfl, hs⟩ := Go.ChangeMaps.open_string Tryz.underlying9 (hval 0 9 v0 rfl rfl) h0
  obtain ⟨A, rfl, ha1, ha2, ha3, ha4⟩ := bud_of_trod (hval 1 29 v1 rfl rfl) h1
  obtain ⟨M, rfl, hm1, hm2, hm3, hm4⟩ := bud_of_trod (hval 2 29 v2 rfl rfl) h2
  have hs' : s.size ≤ 9223372036854775807 := Nat.le_trans hs maxLen_le
  have hTb : TabW W.heap.size W := tabw_of_laid hX
  refine (kGreater_any s hs' A M ha1 ha2 ha3 ha4 hm1 hm2 hm3 hm4 W W.heap.size hTb (Nat.le_refl _) (fun V hV => known_any V W.heap.size (hTb.below (hV.below (Nat.le_refl _) (by simp))) hV.size)).mono fun e W' ⟨he, hb⟩ => ?_
  subst he
  have hB : Below W.heap.size W W' := hb.below (Nat.le_refl _) (fun x hx => by cases hx)
  exact ⟨_, rfl, ⟨_, _, _, [], _, [], hW', trodAll_mk1 (shut_bool Tryz.underlying4 true), trodAll_mk3 (Go.ChangeMaps.shut_string Tryz.underlying9 hs) (Below.trod Tryz.laidOut (by kernel_rfl) (of_decide_eq_true (by kernel_rfl)) h1 hB (fun x hx => hlt x (by simp [hx]))) (Below.trod Tryz.laidOut (by kernel_rfl) (of_decide_eq_true (by kernel_rfl)) h2 hB (fun x hx => hlt x (by simp [hx]))), rfl, hB.frame _, fun h => by cases h⟩⟩

theorem greater_holds : Rows.GreaterSaid :=
  OpenClaim.holds_of_wide 7 Tryz.f7 rfl rfl rfl rfl rfl rfl rfl ⟨rfl, rfl, rfl, rfl, rfl⟩ rfl rfl rfl rfl rfl (by kernel_rfl) Tryz.func7 (by kernel_rfl)
    (of_decide_eq_true (by kernel_rfl)) (by unfold Func.isWrapper; first | (rw [if_pos (by decide +kernel)]; kernel_rfl) | (rw [if_neg (by decide +kernel)]; exact ⟨rfl, rfl⟩))
    (fun os started H enc _ => greater_lifted os started H enc)

/-- Budgets only shut out. -/
theorem greater_card_holds : Rows.GreaterCardSaid :=
  Claim7.holds_tied_plain_at .later [] [.data, .data, .data] true (true, "995999d72089b0ebf81094c7918fe8fcd5c2c4d2470c4ab89db265d55493abd5") true
    greater_holds (fun _ h => by cases h) (by kernel_rfl) (fun _ h => by cases h) greater_row_tie rfl ⟨rfl, rfl⟩ (by kernel_rfl) rfl
    (fun f fn hf hfn => by
      obtain rfl : f = 7 := Option.some.inj ((show Tryz.prog.funcNamed "grafter/grafterkeep.Greater" = some 7 by kernel_rfl).symm.trans hf) |>.symm
      obtain rfl : fn = Tryz.f7 := (Option.some.inj (Tryz.func7.symm.trans hfn)).symm
      exact ⟨by kernel_rfl, fun j t ht => by
        rw [Tryz.params7] at ht
        have hm : t ∈ [9, 29, 29] := by simpa using Array.mem_of_getElem? ht
        have hall : ([9, 29, 29].all fun u => !Tryz.prog.wantsStandIn u) = true := by kernel_rfl
        exact (show Tryz.prog.wantsStandIn t = false by simpa using List.all_eq_true.1 hall t hm)⟩)
    (by kernel_rfl)
#print axioms greater_card_holds

end Go.Proofs.YtkflkmmbakccoaaGreatDoor
