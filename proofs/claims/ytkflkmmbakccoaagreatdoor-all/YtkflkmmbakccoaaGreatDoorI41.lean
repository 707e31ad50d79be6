/- THE STATEMENT: for every script, All returns true, and the script reads as it did: every Load, Measure, Plain, Get and Unfold of the program, of any docs, in any order, answers as the document's own reader does. -/
import Derived.Test.YtkflkmmbakccoaaGreatDoorI40

namespace Go.Proofs.YtkflkmmbakccoaaGreatDoor
open Go.ChangeShapes Go.WideShapes Go.ChangeAt Go.WideElems Go.RowKit Go.Deep

theorem tabsA_of_laid {W : World} (h : laidMetH Tryz.prog Rows.allRow.laid W) : Tabs W.heap.size W := tabs_of_laid h

/-- The door's own heap meets the condition. -/
theorem doorA_met (os : Os) (args : Array Value) : laidMetH Tryz.prog Rows.allRow.laid ((World.doorLaid Tryz.prog 4000 os).forCall (fun _ _ => 0) ⟨#[], args, []⟩).memory :=
  laidMetH_of_parts3 (fuel := 8) (laidMet_of_run' 8 (by kernel_rfl) (by kernel_rfl)) (by kernel_rfl) (by kernel_rfl)

set_option maxRecDepth 100000 in
/-- A step that is read: its cells, its number and its path. -/
theorem stepA_of_trod {H : Type} {enc : TypeId × Value → H} {w : World} {held : Bool} {fuel : Nat} {cs : List Value} {x : DataW H × List MemPlace} (h : DataW.trod enc Tryz.prog w 0 (fun _ => true) held fuel 56 cs = some x) (hzw : ∀ n ∈ x.1.weights Tryz.prog 56, n ≤ reachBytes) :
    ∃ c : StepC, cs = c.cells ∧ (-9223372036854775808 ≤ c.e ∧ c.e ≤ 9223372036854775807) ∧ c.s.size ≤ 9223372036854775807 ∧ (-9223372036854775808 ≤ c.n ∧ c.n ≤ 9223372036854775807) ∧ ∃ path, PathOk w (.slice c.pa c.pn c.pc) path := by
  obtain ⟨xs, n, _, hxe, hl, hlen, hf⟩ := DataW.trod_struct Tryz.underlying56 h
  rw [cStep] at hl
  have f0 := hf 0 _ rfl
  have f1 := hf 1 _ rfl
  have f2 := hf 2 _ rfl
  have f3 := hf 3 _ rfl
  have f4 := hf 4 _ rfl
  have f5 := hf 5 _ rfl
  clear hf h
  match xs, hlen, hxe with
  | [y0, y1, y2, y3, y4, y5], _, hxe =>
    match cs, hl with
    | [c0, c1, c2, c3, c4, c5, c6, c7, c8], _ =>
      have f0 : DataW.trod enc Tryz.prog w 0 (fun _ => true) held n 3 (List.take (Tryz.prog.cellsOf 3) [c0, c1, c2, c3, c4, c5, c6, c7, c8]) = some y0 := f0
      have f1 : DataW.trod enc Tryz.prog w 0 (fun _ => true) held n 3 (List.take (Tryz.prog.cellsOf 3) [c1, c2, c3, c4, c5, c6, c7, c8]) = some y1 := f1
      have f2 : DataW.trod enc Tryz.prog w 0 (fun _ => true) held n 3 (List.take (Tryz.prog.cellsOf 3) [c2, c3, c4, c5, c6, c7, c8]) = some y2 := f2
      have f3 : DataW.trod enc Tryz.prog w 0 (fun _ => true) held n 9 (List.take (Tryz.prog.cellsOf 9) [c3, c4, c5, c6, c7, c8]) = some y3 := f3
      have f4 : DataW.trod enc Tryz.prog w 0 (fun _ => true) held n 29 (List.take (Tryz.prog.cellsOf 29) [c4, c5, c6, c7, c8]) = some y4 := f4
      have f5 : DataW.trod enc Tryz.prog w 0 (fun _ => true) held n 46 (List.take (Tryz.prog.cellsOf 46) [c8]) = some y5 := f5
      rw [cInt] at f0 f1 f2
      rw [cStr] at f3
      rw [cBud] at f4
      rw [cStrs] at f5
      obtain ⟨kd, e0, _, _⟩ := DataW.trod_int Tryz.underlying3 f0
      obtain ⟨e, e1, _, w1⟩ := DataW.trod_int Tryz.underlying3 f1
      obtain ⟨nn, e2, _, w2⟩ := DataW.trod_int Tryz.underlying3 f2
      obtain ⟨s, e3, _, hs⟩ := DataW.trod_string Tryz.underlying9 f3
      obtain ⟨zs, n4, _, _, _, hz, hg⟩ := DataW.trod_struct Tryz.underlying29 f4
      have g0 := hg 0 _ rfl
      have g1 := hg 1 _ rfl
      have g2 := hg 2 _ rfl
      have g3 := hg 3 _ rfl
      clear hg
      match zs, hz with
      | [z0, z1, z2, z3], _ =>
        have g0 : DataW.trod enc Tryz.prog w 0 (fun _ => true) held n4 3 (List.take (Tryz.prog.cellsOf 3) [c4, c5, c6, c7]) = some z0 := g0
        have g1 : DataW.trod enc Tryz.prog w 0 (fun _ => true) held n4 3 (List.take (Tryz.prog.cellsOf 3) [c5, c6, c7]) = some z1 := g1
        have g2 : DataW.trod enc Tryz.prog w 0 (fun _ => true) held n4 3 (List.take (Tryz.prog.cellsOf 3) [c6, c7]) = some z2 := g2
        have g3 : DataW.trod enc Tryz.prog w 0 (fun _ => true) held n4 3 (List.take (Tryz.prog.cellsOf 3) [c7]) = some z3 := g3
        rw [cInt] at g0 g1 g2 g3
        obtain ⟨b0, q0, _, _⟩ := DataW.trod_int Tryz.underlying3 g0
        obtain ⟨b1, q1, _, _⟩ := DataW.trod_int Tryz.underlying3 g1
        obtain ⟨b2, q2, _, _⟩ := DataW.trod_int Tryz.underlying3 g2
        obtain ⟨b3, q3, _, _⟩ := DataW.trod_int Tryz.underlying3 g3
        obtain ⟨path, hpath⟩ : ∃ path, PathOk w c8 path := path_of_trod f5 (fun m hm => hzw m (by rw [hxe]; exact weights_part 5 Tryz.underlying56 rfl rfl m hm))
        have hp : ∃ pa pn pc, c8 = .slice pa pn pc := by
          rcases DataW.trod_slice Tryz.underlying46 f5 with ⟨e5, _⟩ | ⟨a, len, cap, _, _, _, _, e5, _⟩
          · exact ⟨_, _, _, by simpa using e5⟩
          · exact ⟨_, _, _, by simpa using e5⟩
        obtain ⟨pa, pn, pc, rfl⟩ := hp
        simp only [List.take_succ_cons, List.take_zero, List.cons.injEq, and_true] at e0 e1 e2 e3 q0 q1 q2 q3
        subst e0 e1 e2 e3 q0 q1 q2 q3
        refine ⟨⟨kd, e, nn, s, ⟨b0, b1, b2, b3⟩, pa, pn, pc⟩, rfl, bounds_i64 w1, ?_, bounds_i64 w2, path, hpath⟩
        simp only [maxLen] at hs
        simp only
        omega

/-- A script that came in is what the walk asks of it. -/
theorem scriptA_of {H : Type} {enc : TypeId × Value → H} {W : World} {v : Value} {d : DataW H} {p : List MemPlace} (hshape : ∃ a len cap, v = .slice a len cap) (h : DataW.Trod enc Tryz.prog W 0 (fun _ => true) true 22 v d p)
    (hsz : ∀ n ∈ d.weights Tryz.prog 22, n ≤ reachBytes) : ∃ steps, ScriptA W v steps := by
  obtain ⟨a0, len0, cap0, rfl⟩ := hshape
  obtain ⟨fuel, hf⟩ := h
  rcases open_slice Tryz.underlying22 hf with ⟨hcs, hx⟩ | ⟨a, len, cap, m, n, D, Pl, hcs, _, hl, hm, hmm, hx, hel⟩
  · simp [Value.cells] at hcs
    obtain ⟨rfl, rfl, rfl⟩ := hcs
    exact ⟨[], ⟨⟨⟨⟨_, _, rfl, (by simp), (fun h => by simp at h)⟩, (fun c hc => by cases hc), (fun c hc => by cases hc), (by simp)⟩, (fun c hc => by cases hc)⟩, (fun c hc => by cases hc)⟩⟩
  · simp [Value.cells] at hcs
    obtain ⟨rfl, rfl, rfl⟩ := hcs
    simp only [Prod.mk.injEq] at hx
    obtain ⟨hd, hp⟩ := hx
    simp only [if_true] at hmm
    subst hmm
    rw [hd] at hsz
    have hb := hsz ((((List.range len0).map D).length + ((List.range (m - len0)).map fun j => D (len0 + j)).length) * Tryz.prog.bytesOf 56) (by simp [DataW.weights, Tryz.underlying22])
    rw [bStep] at hb
    have hrb : reachBytes ≤ 140737488355328 := by decide
    have hlen : len0 + 3 ≤ 8000000000000 := by
      simp only [List.length_map, List.length_range] at hb
      omega
    have each : ∀ i, i < len0 → ∃ c : StepC, W.cells? 0 (a.add (i * 9)) 9 = some c.cells ∧ (-9223372036854775808 ≤ c.e ∧ c.e ≤ 9223372036854775807) ∧ c.s.size ≤ 9223372036854775807 ∧ (-9223372036854775808 ≤ c.n ∧ c.n ≤ 9223372036854775807) ∧ ∃ path, PathOk W (.slice c.pa c.pn c.pc) path := fun i hi => by
      obtain ⟨cs', h1, h2⟩ := hel i (by omega)
      rw [cStep] at h1
      obtain ⟨c, rfl, h3, h4, h6, h5⟩ := stepA_of_trod h2 (fun n hn => hsz n (weights_elem Tryz.underlying22 (d := D i) (List.mem_map.2 ⟨i, List.mem_range.2 hi, rfl⟩) n hn))
      exact ⟨c, h1, h3, h4, h6, h5⟩
    let f : Nat → StepC := fun i => if hi : i < len0 then (each i hi).choose else ⟨0, 0, 0, ⟨#[]⟩, ⟨0, 0, 0, 0⟩, none, 0, 0⟩
    have hfs : ∀ i, i < len0 → W.cells? 0 (a.add (i * 9)) 9 = some (f i).cells ∧ (-9223372036854775808 ≤ (f i).e ∧ (f i).e ≤ 9223372036854775807) ∧ (f i).s.size ≤ 9223372036854775807 ∧ (-9223372036854775808 ≤ (f i).n ∧ (f i).n ≤ 9223372036854775807) ∧ ∃ path, PathOk W (.slice (f i).pa (f i).pn (f i).pc) path := fun i hi => by
      have := (each i hi).choose_spec
      simp only [f, dif_pos hi]
      exact this
    obtain ⟨b, off, spot⟩ := a
    refine ⟨(List.range len0).map f, ⟨⟨⟨⟨_, _, (by rw [List.length_map, List.length_range]), (by simpa using hl), fun h0 => ?_⟩, fun c hc => ?_, fun c hc => ?_, (by simpa using hlen)⟩, fun c hc => ?_⟩, fun c hc => ?_⟩⟩
    · simp only [List.length_map, List.length_range] at h0
      have key : ∀ i, i < len0 → ∀ j, j < 9 → W.cell? ((⟨b, off, spot⟩ : Addr).add (i * 9 + j)) = (f i).cells[j]? := fun i hi j hj => by
        obtain ⟨_, hl9, hcell⟩ := World.cells?_some (hfs i hi).1
        have := hcell j (by simpa using hj)
        rw [addr_add] at this
        exact this
      have hspot : spot = none := by
        have := key 0 h0 0 (by omega)
        have h2 : (f 0).cells[0]? = some (.int .i64 (f 0).kd) := rfl
        rw [h2] at this
        simpa [Addr.add] using World.cell?_spot this
      subst hspot
      refine ⟨b, off, rfl, ?_, fun i hi j hj => ?_⟩
      · have hc0 := key 0 h0 0 (by omega)
        have h2 : (f 0).cells[0]? = some (.int .i64 (f 0).kd) := rfl
        rw [h2] at hc0
        by_cases hx : b < W.heap.size
        · exact hx
        · simp [World.cell?, Addr.add, Array.getElem?_eq_none (by omega : W.heap.size ≤ b)] at hc0
      · have hi' : i < len0 := by simpa using hi
        have := key i hi' j hj
        rw [addr_none] at this
        rw [show off + i * 9 + j = off + (i * 9 + j) by omega, this]
        simp
    · obtain ⟨i, hi, rfl⟩ := List.mem_map.1 hc
      exact (hfs i (by simpa using hi)).2.1
    · obtain ⟨i, hi, rfl⟩ := List.mem_map.1 hc
      exact (hfs i (by simpa using hi)).2.2.1
    · obtain ⟨i, hi, rfl⟩ := List.mem_map.1 hc
      exact (hfs i (by simpa using hi)).2.2.2.2
    · obtain ⟨i, hi, rfl⟩ := List.mem_map.1 hc
      exact (hfs i (by simpa using hi)).2.2.2.1

set_option maxRecDepth 100000 in
theorem all_lifted (os : Os) (started : os.Started) (H : Type) (enc : TypeId × Value → H) :
    ReturnsInHanded {} Tryz.checked os 5 .any (fun w args => (Rows.allSpec.pre enc Tryz.prog Tryz.f5 [] false w args ∧ laidMetH Tryz.prog Rows.allRow.laid w) ∧ sizedMet enc Tryz.prog Tryz.f5 (OpenSpec.ofChange Rows.allSpec) false w args)
      (Rows.allSpec.post enc Tryz.prog Tryz.f5 false true false false) := by
  refine returnsInHanded_of_change_and (C := Tryz.checked) (X := fun w _ => laidMetH Tryz.prog Rows.allRow.laid w) (fun _ _ _ hh h => h.of_heap hh) Tryz.own started (by kernel_rfl) Tryz.func5
    (ChangeSpec.witness_shaped (enc := enc) (C := Tryz.checked) (os := os) (X := fun w _ => laidMetH Tryz.prog Rows.allRow.laid w) false (World.doorLaid Tryz.prog 4000 os) #[.slice none 0 0] 8 rfl (World.shaped_of_RefB (by kernel_rfl) (by kernel_rfl)) (by kernel_rfl) (by kernel_rfl) (by kernel_rfl) (doorA_met os _)) ?_
  intro W base args ds gs before hval0 hW _ hsz0 hX _
  have hval : ∀ (j : Nat) t v, Tryz.f5.params[j]? = some t → args[j]? = some v → Value.okWide Tryz.prog W .any base t v := hval0
  have hW' := hW
  obtain ⟨p, q, hA0, hV, rfl, _, _⟩ := hW
  have hA : DataW.TrodAll enc Tryz.prog W 0 (fun _ => true) true Tryz.f5.params.toList args.toList ds p := hA0
  rw [Tryz.params5] at hA hval
  obtain ⟨v0, d0, rfl, rfl, h0⟩ := trodAll_one hA
  obtain ⟨rfl, rfl⟩ := trodVars_none hV
  clear hA0 hval0
  simp only [List.append_nil] at hW'
  have hlt : ∀ x ∈ p, x.block < W.heap.size := fun x hx => by simpa using hW'.lt x hx
  have hsz : (DataW.weightsEach Tryz.prog (Tryz.f5.params.toList ++ Rows.allSpec.plain.varTypes Tryz.prog) ([d0] ++ [])).all (· ≤ reachBytes) = true := hsz0
  rw [Tryz.params5] at hsz
  have hwt : ∀ n ∈ d0.weights Tryz.prog 22, n ≤ reachBytes := fun n hn => by
    have := List.all_eq_true.1 hsz n (DataW.weights_mem_each (j := 0) (t := 22) rfl rfl n hn)
    simpa using this
  obtain ⟨steps, hS⟩ := scriptA_of (okWide_slice Tryz.underlying22 (hval 0 22 v0 rfl rfl)) h0 hwt
  have hTb : Tabs W.heap.size W := tabsA_of_laid hX
  refine (lAll_any hS W.heap.size hTb (Nat.le_refl _)).mono fun e W' ⟨he, hb⟩ => ?_
  subst he
  have hB : Below W.heap.size W W' := hb.below (Nat.le_refl _) (fun x hx => by cases hx)
  exact ⟨_, rfl, ⟨_, _, _, [], _, [], hW', trodAll_mk1 (shut_bool Tryz.underlying4 true), trodAll_mk1 (Below.trod Tryz.laidOut (by kernel_rfl) (of_decide_eq_true (by kernel_rfl)) h0 hB hlt), rfl, hB.frame _, fun h => by cases h⟩⟩

theorem all_holds : Rows.AllSaid :=
  OpenClaim.holds_of_wide 5 Tryz.f5 rfl rfl rfl rfl rfl rfl rfl ⟨rfl, rfl, rfl, rfl, rfl⟩ rfl rfl rfl rfl rfl (by kernel_rfl) Tryz.func5 (by kernel_rfl)
    (of_decide_eq_true (by kernel_rfl)) (by unfold Func.isWrapper; first | (rw [if_pos (by decide +kernel)]; kernel_rfl) | (rw [if_neg (by decide +kernel)]; exact ⟨rfl, rfl⟩))
    (fun os started H enc _ => all_lifted os started H enc)

/-- Every Load, Measure, Plain, Get and Unfold of the program answers as the document's own reader. -/
theorem all_card_holds : Rows.AllCardSaid :=
  Claim7.holds_tied_plain_at .later [] [.data, .data, .data, .sentinel, .sentinel] true (true, "995999d72089b0ebf81094c7918fe8fcd5c2c4d2470c4ab89db265d55493abd5") true
    all_holds (fun _ h => by cases h) (by kernel_rfl) (fun _ h => by cases h) all_row_tie rfl ⟨rfl, rfl⟩ (by kernel_rfl) rfl
    (fun f fn hf hfn => by
      obtain rfl : f = 5 := Option.some.inj ((show Tryz.prog.funcNamed "grafter/grafterlaw.All" = some 5 by kernel_rfl).symm.trans hf) |>.symm
      obtain rfl : fn = Tryz.f5 := (Option.some.inj (Tryz.func5.symm.trans hfn)).symm
      exact ⟨by kernel_rfl, fun j t ht => by
        rw [Tryz.params5] at ht
        have hm : t ∈ [22] := by simpa using Array.mem_of_getElem? ht
        have hall : ([22].all fun u => !Tryz.prog.wantsStandIn u) = true := by kernel_rfl
        exact (show Tryz.prog.wantsStandIn t = false by simpa using List.all_eq_true.1 hall t hm)⟩)
    (by kernel_rfl)
#print axioms all_card_holds

end Go.Proofs.YtkflkmmbakccoaaGreatDoor
